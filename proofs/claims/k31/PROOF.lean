import PyProof.Rows.All
import Wide.All
import OpenK.AllK
import Wide.FinOn
import Lean
import PyProof.EqAt
import PyProof.EqKinds
import PyProof.TupleCall
import PySem.Challenge.RW_planestacks_k31_texts_of_no_terms
set_option linter.all false
def ag:=@PySem.wpAny_bind
def aj:=@List.length_map
def ak:=@decide_eq_false
def ao:=@Nat.le_trans
def ap:=@decide_eq_true
def aq:=@List.length_append
def ar:=@Nat.le_refl
def av:=@if_neg
def ax:=@if_pos
def ay:=@Bool.false_ne_true
def aA:=@PySem.wpAny_pure
def aB:=@List.mem_append_right
def aE:=@List.size_toArray
def aH:=@PySem.Heap.lt_size
def aK:=@decide_eq_false_iff_not
def aL:=@PySem.wpAny_mono
def aM:=@List.mem_cons_of_mem
def aN:=@List.map_append
def aO:=@Int.toNat_natCast
def aP:=@List.map_cons
def aV:=@congrArg
def aW:=@Nat.lt_of_lt_of_le
def aZ:=@PySem.W.mg_of
def bc:=@List.replicate_succ
def bf:=@List.append_assoc
def bj:=@decide_eq_true_eq
def bp:=@List.length_cons
def bq:=@List.length_set
def br:=@beq_eq_false_iff_ne
def bu:=@List.mem_singleton
def bw:=@Nat.ne_of_lt
def bx:=@List.eq_nil_of_length_eq_zero
def bz:=@Option.some.inj
def bC:=@List.append_nil
def bF:=@List.length_dropLast
def bH:=@Nat.lt_of_le_of_lt
def bI:=@decide_eq_decide
def bL:=@PySem.W.mg_none_of
def bM:=@Nat.pow_le_pow_right
def bP:=@List.length_drop
def bR:=@Nat.zero_le
def bW:=@List.take_length
def bX:=@List.mem_cons_self
def cg:=@List.mem_of_mem_take
def cj:=@List.map_map
def cp:=@of_decide_eq_false
def cE:=@of_decide_eq_true
def cO:=@PySem.W.kia_one
def cQ:=@List.length_take
def cU:=@Nat.mul_le_mul_left
def cV:=@Ne.symm
def cY:=@List.flatten_cons
def dq:=@List.lookup_cons
def dv:=@Array.length_toList
def dG:=@List.nodup_cons
def dH:=@PySem.wpAny_newObj_type
def dL:=@PySem.F.plainAttrs_list
def dM:=@Bool.and_eq_true
def eF:=@PySem.wpAny_truthy_bool
def eG:=@List.eq_nil_or_concat
def eI:=@List.concat_eq_append
def eT:=@Nat.lt_irrefl
def eV:=@Nat.mul_le_mul
def eY:=@List.mem_append_left
def fh:=@PySem.wpAny_execs_cons
def ft:=@Int.emod_nonneg
def fu:=@PySem.wpAny_field
def fv:=@PySem.Heap.size_push
def fB:=@Nat.lt_succ_self
def fK:=@Nat.le_of_ble_eq_true
def fL:=@List.length_singleton
def ge:=@Nat.mul_le_mul_right
def gy:=@PySem.wpAny_passesOwn
def gz:=@PySem.mem_of_lookup
def gA:=@Int.toNat_of_nonneg
def gI:=@PySem.wpAny_of_eq
def gJ:=@PySem.wpAny_loadPart_at
def gK:=@PySem.wpAny_dictEntries
def gL:=@Int.eq_ofNat_of_zero_le
def gT:=@PySem.wpAny_holding
def ie:=@List.take_of_length_le
def ig:=@Int.natAbs_natCast
def iw:=@PySem.wpAny_call_entry
def iy:=@List.length_nil
def iz:=@Bool.false_or
def iZ:=@List.length_replicate
def i6:=@PySem.wpAny_typeNameOfWhole_keyiter
def i7:=@Nat.lt_succ_of_lt
def i8:=@List.length_range
def i9:=@Bool.not_eq_true'
def jb:=@PySem.wpAny_Call_Name_kw
def jp:=@PySem.wpAny_loadPart'
def jq:=@beq_iff_eq
def jr:=@List.take_succ
def js:=@PySem.F.slot_dict_keyiterator_next
def jM:=@List.getElem_mem
def jN:=@Int.zero_add
def jO:=@List.drop_eq_getElem_cons
def jS:=@List.filterMap_cons
def ki:=@PySem.wpAny_setField
def kj:=@PySem.F.type_list_append
def kl:=@PySem.F.slot_list_append
def km:=@PySem.F.slot_tuple_iterator_next
def mh:=@Nat.succ_mul
def mi:=@Nat.pow_succ
def mj:=@Nat.ne_of_gt
def ml:=@Nat.lt_trans
def mn:=@List.drop_eq_nil_of_le
def mM:=@PySem.Obj.data_mapFields
def mO:=@List.take_append_drop
def nQ:=@List.filter_cons
def nR:=@List.all_eq_true
def n4:=@PySem.SeqAt.canLay_of_shaped
def n8:=@PySem.W.looks_findIn
def n9:=@PySem.Calls.callWith_builtin
def pW:=@PySem.W.hideAll_get
def pX:=@List.length_reverse
def pY:=@List.getElem_of_mem
def qf:=@PyProof.Rows.callWith_type1
def qg:=@Nat.le_of_eq
def qE:=@PySem.wpAny_standAt
def rC:=@PySem.W.callWith_K
def rD:=@Int.emod_lt_of_pos
def rE:=@PySem.Calls.evalArgs_plain
def rF:=@PyProof.Rows.subscriptTail_builtinR
def sX:=@PySem.wpAny_execs_nil
def sZ:=@List.foldl_append
def td:=@PySem.Heap.SameBut.update
def uj:=@PySem.codeAny_mono
def uk:=@List.map_drop
def uV:=@PySem.wpAny_pyIter_tuple
def uW:=@Nat.not_lt_of_le
def uX:=@List.length_eq_zero_iff
def xn:=@if_true
def xo:=@Nat.sub_self
def xp:=@List.filter_eq_nil_iff
def xq:=@List.dropWhile_sublist
def xx:=@PySem.sizeLine_eq
def xz:=@List.forIn_cons
def xA:=@List.foldl_cons
def xB:=@Bool.or_eq_true
def xC:=@Bool.eq_iff_iff
def yg:=@PySem.F.type_list_pop
def yh:=@PySem.F.slot_list_pop
def yi:=@List.length_filter_le
def Bs:=@PySem.wpAny_isInstance
def Bt:=@List.mem_of_mem_drop
def Bu:=@List.dropLast_concat
def Bv:=@PySem.Heap.DictOfH.new
def Bw:=@Bool.and_false
def CI:=@PySem.wpAny_Call_method_late
def CJ:=@PySem.W.looks_mroIn
def CK:=@Option.some_ne_none
def CL:=@List.map_congr_left
def CS:=@PySem.wpAny_dictEpoch
def CT:=@Bool.true_and
def CU:=@Bool.and_true
def D1:=@PySem.Obj.isFreed_of_fields
def D2:=@Nat.one_le_two_pow
def D3:=@PySem.F.typeOf_object_class
def Gc:=@if_false
def Gd:=@PySem.W.kitx_dict
def Ge:=@Prod.ext
def Gf:=@Nat.sub_zero
def Gg:=@Nat.lt_or_ge
def Gh:=@Nat.le_of_lt
def Gi:=@List.map_nil
def Gj:=@List.all_map
def IN:=@beq_self_eq_true
def IP:=@Nat.succ_le_succ
def IQ:=@Nat.min_le_right
def IR:=@Nat.and_two_pow_sub_one_eq_mod
def IW:=@PySem.wpAny_attempt
def IY:=@List.take_append_of_le_length
def IZ:=@Int.mul_add
def KP:=@PySem.tupleKind_room_in1
def KQ:=@PySem.call_meets
def KR:=@Nat.min_eq_left
def KS:=@List.sum_append
def KT:=@List.range_succ
def KU:=@List.of_mem_zip
def KW:=@Int.natCast_mul
def KY:=@Int.natCast_add
def KZ:=@PySem.Calls.spliced_cons
def K0:=@Bool.decide_and
def NS:=@PySem.wpAny_pyIter_list
def NT:=@PySem.seqIndex_neg
def NU:=@List.drop_zero
def NV:=@Int.natAbs_mul
def N1:=@List.mem_or_eq_of_mem_set
def N2:=@Classical.byContradiction
def PF:=@List.map_take
def PH:=@List.cons.inj
def PJ:=@Int.mul_assoc
def PL:=@PySem.F.args_dict_keyiterator_next_1
def PM:=@Bool.or_false
def Qe:=@PySem.wpAny_alloc
def Qf:=@PySem.seqIndex_of
def Qg:=@PySem.F.entry_dict_keyiterator_next
def Ru:=@eq_comm
def Rv:=@PySem.W.cellsFrom_some
def Rw:=@Nat.mul_comm
def Rx:=@PySem.F.args_tuple_iterator_next_1
def RE:=@PyProof.Rows.assignInOrder_cons
def RF:=@PySem.F.slot_dict_get
def RG:=@List.dropLast_eq_take
def RH:=@PySem.F.entry_tuple_iterator_next
def RI:=@Bool.beq_eq_decide_eq
def R1:=@PySem.wpAny_call
def R3:=@PySem.wpAny_Expr_any
def R4:=@PySem.isSubtype_stop
def R5:=@List.replicate_succ'
def R6:=@PySem.F.slot_range_iterator_next
def R7:=@PySem.Calls.Name_function_global
def Sb:=@PySem.W.shaped_ints
def Sc:=@List.takeWhile_cons
local macro_rules|`(tactic|decide)=>`(tactic|decide +kernel)
abbrev qF(x:PySem.Str):Prop:=(x==("__debug__":PySem.Str))=false
abbrev uY(sc:PySem.Scope)(x:PySem.Str):Prop:=sc.names.lookup x=some .globalImplicit
abbrev Jc(c:PySem.Pos)(es:List PySem.Expr)(E:PySem.Env):Prop:=((PySem.backTo c<|PySem.starEach es E).all (λx=>!x.1)&&(PySem.backToKw c<|PySem.keywordEach [] E).all (λx=>x.1.isSome)&&decide (es.length+([]:List PySem.Keyword).length+(if([]:List PySem.Keyword).isEmpty then 0 else 1)<30))=true
abbrev Fe(e:PySem.Expr)(es:List PySem.Expr)(E:PySem.Env):Prop:=PySem.starEach (e::es) E=(false,PySem.eval e E)::PySem.starEach es E
abbrev vv(c:PySem.Pos)(es:List PySem.Expr)(E:PySem.Env):Prop:=(PySem.backTo c<|PySem.starEach es E).any (·.1)=false
abbrev ce:=PySem.W.Frag
abbrev bh:=List Int
abbrev bZ:=List Nat
abbrev cH:=List PySem.Str
abbrev rH:=List PySem.Expr
abbrev ir:=List PySem.Value
abbrev fR:=List<|PySem.Addr×PySem.Obj
abbrev qh:=PySem.Value->PySem.Shared->Prop
abbrev rG:=PySem.Str->Option PySem.Value
set_option Elab.async false
set_option maxRecDepth 100000
namespace L2
open PySem PySem.Spec PyProof.Rows
variable {K:ce}
abbrev xw:=Sum Int Str
def HJ:xw->Value->Bool|.inl k,v=>Value.isInt k v|.inr x,v=>Value.isStrOf x v
def QV(w:World):xw->Int|.inl k=>hashInt k|.inr x=>hashStr w x
def fb:∀{k:xw}{v:Value},HJ k v=true->(∃i t,k=Sum.inl i/\v=Value.int i t)\/(∃x t,k=Sum.inr x/\v=Value.str x t)
 |.inl i,v,h=>by obtain⟨t,e⟩:=Value.isInt_shape (k:=i) (v:=v) h;exact .inl ⟨i,t,rfl,e⟩
 |.inr x,v,h=>by obtain⟨t,e⟩:=Value.isStrOf_shape (x:=x) (v:=v) h;exact .inr ⟨x,t,rfl,e⟩
def M2(a b:Int):decide ((Sum.inl a:xw)=Sum.inl b)=(a==b):=by
 by_cases e:a=b;·subst e;simp
 ·have h:¬(Sum.inl a:xw)=Sum.inl b:=λq=>e<|Sum.inl.inj q;rw[ak h];exact(br.mpr e).symm
def MZ(a b:Str):decide ((Sum.inr a:xw)=Sum.inr b)=decide (a=b):=by
 by_cases e:a=b;·subst e;simp
 ·have h:¬(Sum.inr a:xw)=Sum.inr b:=λq=>e<|Sum.inr.inj q;rw[ak h,ak e]
def M1(a:Int)(b:Str):decide ((Sum.inl a:xw)=Sum.inr b)=false:=ak λq=>nomatch q
def M0(a:Str)(b:Int):decide ((Sum.inr a:xw)=Sum.inl b)=false:=ak λq=>nomatch q
def sv(prog:Program)(w:World):PySem.KeyKind prog w xw where
 is:=HJ
 hash:=QV w
 inj:=λv a b ha hb=>by
  rcases fb ha with⟨i,t,rfl,rfl⟩ |⟨x,t,rfl,rfl⟩
  ·rcases fb hb with⟨j,u,rfl,e⟩ |⟨y,u,rfl,e⟩;·injection e with e1 _;rw[e1]
   ·exact nomatch e
  ·rcases fb hb with⟨j,u,rfl,e⟩ |⟨y,u,rfl,e⟩;·exact nomatch e
   ·injection e with e1 _;rw[e1]
 byValue:=λk v h=>by rcases fb h with⟨i,t,rfl,rfl⟩ |⟨x,t,rfl,rfl⟩<;>rfl
 pyHash:=λhv h=>by
  rcases fb hv with⟨i,t,rfl,rfl⟩ |⟨x,t,rfl,rfl⟩;·exact wpAny_pyHash_int h
  ·exact wpAny_pyHash_str h
 eqBool:=λhu hv h=>by
  rcases fb hu with⟨i,t,rfl,rfl⟩ |⟨x,t,rfl,rfl⟩
  ·rcases fb hv with⟨j,u,rfl,rfl⟩ |⟨y,u,rfl,rfl⟩;·rw[M2]at h;exact wpAny_eqBool_int h
   ·rw[M1]at h;exact SeqAt.EqAt.int_str i t y u _ _ _ _ h
  ·rcases fb hv with⟨j,u,rfl,rfl⟩ |⟨y,u,rfl,rfl⟩;·rw[M0]at h;exact SeqAt.EqAt.str_int x t j u _ _ _ _ h
   ·rw[MZ]at h;exact wpAny_eqBool_str h
 «strs»:=λk x t v h=>by
  rcases fb h with⟨i,u,rfl,e⟩ |⟨y,u,rfl,e⟩;·exact nomatch e
  ·injection e with e1 _;subst e1;cases v<;>rfl
inductive V where
 |Sy |bl (b:Bool) |int (i:Int) |str (x:Str) |Wn (b:Array UInt8) |Xe (b:UInt64) |ref (a:Addr) |ty (n:String)
 deriving DecidableEq
abbrev dw:=List V
def RelV:V->Value->Prop
 |.Sy,u=>u=Value.none|.bl b,u=>u=Value.bool b
 |.int i,u=>∃t,u=Value.int i t|.str x,u=>∃t,u=Value.str x t
 |.Wn b,u=>∃t,u=Value.bytes b t|.Xe b,u=>∃t,u=Value.float b t
 |.ref a,u=>u=Value.ref a|.ty n,u=>u=Value.type n
abbrev Vals:dw->ir->Prop:=Paired RelV
def Vals.length(r:Vals xs us):xs.length=us.length:=Paired.length r
def Vals.get:∀{xs:dw}{us:ir}{i:Nat}{x:V},Vals xs us->xs[i]?=some x->∃u,us[i]?=some u/\RelV x u
 |_,_,_,_,.nil,e=>by simp at e|_,_,0,_,.cons r _,e=>by simp at e;subst e;exact⟨_,rfl,r⟩
 |_,_,i+1,x,.cons _ t,e=>by obtain⟨u,h1,h2⟩:=Vals.get (i:=i) (x:=x) t (by simpa using e);exact⟨u,by simpa using h1,h2⟩
def Vals.set(r:RelV x u):∀{xs:dw}{us:ir}(i:Nat),Vals xs us->Vals (xs.set i x) (us.set i u)
 |_,_,_,.nil=>.nil|_,_,0,.cons _ t=>.cons r t
 |_,_,i+1,.cons q t=>.cons q<|Vals.set r i t
def Vals.append:∀{xs ys:dw}{us ws:ir},Vals xs us->Vals ys ws->Vals (xs++ys) (us++ws)|_,_,_,_,.nil,s=>s|_,_,_,_,.cons r t,s=>.cons r<|Vals.append t s
def Vals.take:∀{xs:dw}{us:ir}(n:Nat),Vals xs us->Vals (xs.take n) (us.take n)
 |_,_,0,_=>.nil|_,_,_+1,.nil=>.nil
 |_,_,n+1,.cons r t=>.cons r<|Vals.take n t
def Vals.drop:∀{xs:dw}{us:ir}(n:Nat),Vals xs us->Vals (xs.drop n) (us.drop n)
 |_,_,0,r=>r|_,_,_+1,.nil=>.nil
 |_,_,n+1,.cons _ t=>Vals.drop n t
def Wb:Option V->Option Value->Prop
 |some v,some u=>RelV v u|none,none=>True
 |_,_=>False
def KV{κ:Type}:List (κ×V)->List (κ×Value)->Prop:=Paired λ(p:κ×V)(q:κ×Value)=>p.1=q.1/\RelV p.2 q.2
def kV:xw->V|.inl i=>.int i|.inr x=>.str x
inductive HO where
 |lst (xs:dw)
 |tup (xs:dw)
 |dK (kvs:List (xw×V)) |dT (kvs:List (List xw×V))
 |set (S:Int->Bool) (n:Nat)
 |ins (C dx:Addr) (fs:List (Str×V))
 |own (x:Addr)
 |xd (fs:List (Str×V))
 |met (f x:Addr)
 |rng (lo hi:Int)
 |TB (o:Obj) (u:HO)
 |WA (ps:Array Value)
 |ext (φ:Heap->Prop)
abbrev Hp:=Addr->Option HO
def c6(H:Hp)(a:Addr)(o:HO):Hp:=λb=>if b=a then some o else H b
def aI:c6 H a o a=some o:=by unfold c6;rw[ax rfl]
def aC{a b:Addr}(h:b≠a):c6 H a o b=H b:=by unfold c6;rw[av h]
def D6{u:HO}:c6 (c6 H a o) a u=c6 H a u:=by funext b;unfold c6;split<;>rfl
def dZ{H:Hp}{a b:Addr}(h:H a=some o)(h':H b=none):a≠b:=by intro e;subst e;rw[h]at h';cases h'
section
variable (P:Program)(w:World)
def Su(H:Hp)(h:Heap)(a:Addr):HO->Prop
 |.lst xs=>xs.length<=sizeLine/\∃(its:ir)(n:Nat),Vals xs its/\h.get? a=some {cls:=.type "list",data:=.seq its.toArray n}|.tup xs=>xs.length<=sizeLine/\∃its:ir,Vals xs its/\IsTup h a its.toArray
 |.dK kvs=>kvs.length<=sizeLine/\(a==sysModules)=false/\∃vs,KV kvs vs/\h.DictOf (sv P w) a vs|.dT kvs=>kvs.length<=sizeLine/\(a==sysModules)=false/\∃xs:List (List xw×Addr×Value),Paired (λ(p:List xw×V)(q:List xw×Addr×Value)=>p.1=q.1/\H q.2.1=some (.tup<|p.1.map kV)/\RelV p.2 q.2.2) kvs xs/\∃o es ep,h.get? a=some o/\o.ExactDict/\o.data=.dict es ep/\es.toList=xs.map (entryOfKey<|tupleKind<|sv P w)/\(xs.map (·.1)).Nodup
 |.set S n=>h.SetOf (intKind P w) a S n|.ins C dx fs=>H dx=some (.own a)/\fs.length<=1000/\dx≠a/\h.get? a=some (PySem.W.instObj C dx)/\∃mA,h.Ns1 dx mA/\(∀f,Wb (fs.lookup f)<|mA f)/\PySem.Within mA (fs.map (·.1))
 |.own _=>∃o,h.get? a=some o|.xd fs=>∃mA,h.Ns1 a mA/\∀f,Wb (fs.lookup f)<|mA f
 |.rng lo hi=>∃t u v,h.get? a=some {cls:=.type "range",data:=.fields #[.int lo t,.int hi u,.int 1 v]}|.TB o u=>h.get? a=some o/\Su H h a u
 |.WA ps=>h.get? a=some {cls:=.none,data:=.fields ps}|.met f x=>h.get? a=some (PySem.W.methodObj (.ref f)<|.ref x)
 |.ext φ=>φ h/\(∃o,h.get? a=some o)/\∀h1 h2:Heap,φ h1->(∀o,h1.get? a=some o->h2.get? a=some o)->φ h2
def U5(H:Hp)(h:Heap):Prop:=∀a o,H a=some o->Su P w H h a o
end
def Su.lt(x:Su P w H h a o):a<h.objs.size:=by
 cases o with
 |lst xs=>obtain⟨_,_,_,_,e⟩:=x;exact aH e
 |tup xs=>obtain⟨_,_,_,p⟩:=x;exact p.lt
 |dK kvs=>obtain⟨_,_,_,_,o,_,_,e,_⟩:=x;exact aH e
 |dT kvs=>obtain⟨_,_,_,_,o,_,_,e,_⟩:=x;exact aH e
 |set S n=>obtain⟨o,_,_,_,e,_⟩:=x;exact aH e
 |ins C dx fs=>obtain⟨_,_,_,e,_⟩:=x;exact aH e
 |own y=>obtain⟨_,e⟩:=x;exact aH e
 |xd fs=>obtain⟨_,⟨_,_,_,e,_⟩,_⟩:=x;exact aH e
 |rng lo hi=>obtain⟨_,_,_,e⟩:=x;exact aH e
 |TB ob u=>obtain⟨e,_⟩:=x;exact aH e
 |WA ps=>exact aH (show h.get? a=some _ from x)|met f y=>exact aH (show h.get? a=some _ from x)
 |ext φ=>obtain⟨_,⟨_,e⟩,_⟩:=x;exact aH e
def Paired.Zn{α β:Type}{F G:α->β->Prop}:∀{l₁:List α}{l₂:List β},Paired F l₁ l₂->(∀a b,F a b->G a b)->Paired G l₁ l₂|_,_,.nil,_=>.nil|_,_,.cons r t,f=>.cons (f _ _ r)<|Paired.Zn t f
def Su.Vp{H':Hp}{h':Heap}(x:Su P w H h a o)(k:∀b u,(b=a\/H b=some (.own a))->h.get? b=some u->h'.get? b=some u)(ho:∀b,H b=some (.own a)->H' b=some (.own a))(ht:∀b xs,H b=some (.tup xs)->H' b=some (.tup xs)):Su P w H' h' a o:=by
 induction o with
 |lst xs=>obtain⟨z,its,n,r,e⟩:=x;exact⟨z,its,n,r,k _ _ (.inl rfl) e⟩
 |tup xs=>obtain⟨z,its,r,ob,e,c⟩:=x;exact⟨z,its,r,ob,k _ _ (.inl rfl) e,c⟩
 |dK kvs=>obtain⟨z,y,vs,r,ob,es,ep,e,c⟩:=x;exact⟨z,y,vs,r,ob,es,ep,k _ _ (.inl rfl) e,c⟩
 |dT kvs=>obtain⟨z,y,xs,r,ob,es,ep,e,c⟩:=x;exact⟨z,y,xs,Paired.Zn r λp q z=>⟨z.1,ht _ _ z.2.1,z.2.2⟩,ob,es,ep,k _ _ (.inl rfl) e,c⟩
 |set S n=>obtain⟨ob,es,ep,t,e,c⟩:=x;exact⟨ob,es,ep,t,k _ _ (.inl rfl) e,c⟩
 |ins C dx fs=>obtain⟨d,z,ne,e,mA,⟨od,es,ep,e2,c⟩,r⟩:=x;exact⟨ho _ d,z,ne,k _ _ (.inl rfl) e,mA,⟨od,es,ep,k _ _ (.inr d) e2,c⟩,r⟩
 |own y=>obtain⟨ob,e⟩:=x;exact⟨ob,k _ _ (.inl rfl) e⟩
 |xd fs=>obtain⟨mA,⟨od,es,ep,e,c⟩,r⟩:=x;exact⟨mA,⟨od,es,ep,k _ _ (.inl rfl) e,c⟩,r⟩
 |rng lo hi=>obtain⟨t,u,v,e⟩:=x;exact⟨t,u,v,k _ _ (.inl rfl) e⟩
 |TB ob u ih=>obtain⟨e,q⟩:=x;exact⟨k _ _ (.inl rfl) e,ih q⟩
 |WA ps=>have e:h.get? a=some {cls:=.none,data:=.fields ps}:=x;show h'.get? a=some {cls:=.none,data:=.fields ps};exact k a _ (.inl rfl) e|met f y=>have e:h.get? a=some (PySem.W.methodObj (.ref f)<|.ref y):=x;show h'.get? a=some (PySem.W.methodObj (.ref f)<|.ref y);exact k a _ (.inl rfl) e
 |ext φ=>obtain⟨p,⟨o,e⟩,st⟩:=x;exact⟨st _ _ p λo q=>k _ _ (.inl rfl) q,⟨o,k _ _ (.inl rfl) e⟩,st⟩
def U5.lt{a:Addr}(x:U5 P w H h)(e:H a=some o):a<h.objs.size:=(x a o e).lt
def U5.fresh{a:Addr}(x:U5 P w H h)(e:h.objs.size<=a):H a=none:=by cases q:H a with|none=>rfl|some u=>exact absurd (aW (x.lt q) e)<|eT _
def U5.kept{h':Heap}(x:U5 P w H h)(k:∀b u,h.get? b=some u->h'.get? b=some u):U5 P w H h':=λa o e=>(x a o e).Vp (λb u _ q=>k b u q) (λ_ q=>q) λ_ _ q=>q
def U5.laid{h':Heap}{a:Addr}(x:U5 P w H h)(k:∀b u,h.get? b=some u->h'.get? b=some u)(hp:h.objs.size<=a)(new:Su P w (c6 H a o) h' a o):U5 P w (c6 H a o) h':=λb u e=>by
 have hn:=x.fresh hp;by_cases hb:b=a;·subst hb;rw[aI]at e;cases e;exact new
 ·rw[aC hb]at e;exact(x b u e).Vp (λc v _ q=>k c v q) (λc q=>by rw[aC<|dZ q hn];exact q) λc xs q=>by rw[aC<|dZ q hn];exact q
def Rd(H:Hp)(a:Addr)(u:HO):Prop:=H a=some u\/∃o,H a=some (.TB o u)
def Rd.ok(r:Rd H a u)(x:U5 P w H h):Su P w H h a u:=by
 rcases r with r |⟨o,r⟩;·exact x a u r
 ·obtain⟨_,q⟩:=x a _ r;exact q
def Qa:Option HO->Prop
 |some (.lst _)=>True|some (.dK _)=>True
 |some (.dT _)=>True|some (.set _ _)=>True
 |some (.ins _ _ _)=>True|some (.ext _)=>True
 |_=>False
def U5.write{h':Heap}{e:Addr}(ok:U5 P w H h)(mu:Qa (H x))(he:e=x\/H e=some (.own x))(k:∀b u,b≠e->h.get? b=some u->h'.get? b=some u)(YK:∃u,h'.get? e=some u)(new:Su P w (c6 H x o') h' x o'):U5 P w (c6 H x o') h':=λb u q=>by
 have Wq:∀c y,H c=some (.own y)->c≠x:=λc y r z=>by subst z;rw[r]at mu;exact mu
 have zBY:∀c xs,H c=some (.tup xs)->c≠x:=λc xs r z=>by subst z;rw[r]at mu;exact mu
 by_cases hb:b=x;·subst hb;rw[aI]at q;cases q;exact new
 ·rw[aC hb]at q;by_cases Yw:b=e
  ·have q':H b=some (.own x):=by
    rcases he with z |z;·exact absurd (Yw.trans z) hb
    ·rw[Yw];exact z
   rw[q]at q';cases q';obtain⟨v,hv⟩:=YK;exact⟨v,by rw[Yw];exact hv⟩
  ·refine(ok b u q).Vp (λc v hc r=>k c v ?_ r) (λc r=>by rw[aC<|Wq c b r];exact r) λc xs r=>by rw[aC<|zBY c xs r];exact r
   rcases hc with rfl |hc;·exact Yw
   ·rintro rfl;rcases he with z |z;·exact Wq c b hc z
    ·rw[hc]at z;cases z;exact hb rfl
structure Un(fs ex:List Addr)(H H':Hp)(h h':Heap):Prop where
 keep:∀b o,h.get? b=some o->H b=none->b∉fs->b∉ex->h'.get? b=some o
 slot:∀b o,h.get? b=some o->H b=none->b∈fs->b∉ex->∃sl,h'.get? b=some {o with slots:=sl}
 free:∀b o,h.get? b=some o->H b=none->b∉ex->H' b=none
 there:∀b o,h.get? b=some o->b∉ex->∃o',h'.get? b=some o'
 TZ:∀b xs,H b=some (.tup xs)->H' b=some (.tup xs)
 TC:∀b o u,H b=some (.TB o u)->H' b=some (.TB o u)
 T6:∀b ps,H b=some (.WA ps)->∃more,H' b=some (.WA<|ps++more)
def Un.any{b:Addr}(u:Un fs ex H H1 h h1)(q:h.get? b=some ob)(n:H b=none)(hx:b∉ex):∃sl,h1.get? b=some {ob with slots:=sl}:=by
 by_cases hb:b∈fs;·exact u.slot b ob q n hb hx
 ·exact⟨ob.slots,u.keep b ob q n hb hx⟩
def Un.kept{h:Heap}{h':Heap}(k:∀b u,h.get? b=some u->h'.get? b=some u):Un fs ex H H h h':=⟨λb ob q _ _ _=>k b ob q,λb ob q _ _ _=>⟨ob.slots,k b ob q⟩,λ_ _ _ n _=>n,λb ob q _=>⟨ob,k b ob q⟩,λ_ _ q=>q,λ_ _ _ q=>q,λ_ ps q=>⟨#[],by rw[q];simp⟩⟩
def Un.refl:Un fs ex H H h h:=Un.kept λ_ _ q=>q
def Un.laid{H:Hp}{h:Heap}{h':Heap}{a:Addr}(k:∀b u,h.get? b=some u->h'.get? b=some u)(hp:h.objs.size<=a)(hn:H a=none):Un fs ex H (c6 H a o) h h' where
 keep:=λb u q _ _ _=>k b u q
 slot:=λb u q _ _ _=>⟨u.slots,k b u q⟩
 free:=λb u q n _=>by rw[aC<|bw<|aW (aH q) hp];exact n
 there:=λb u q _=>⟨u,k b u q⟩
 TZ:=λb xs q=>by rw[aC<|dZ q hn];exact q
 TC:=λb u xs q=>by rw[aC<|dZ q hn];exact q
 T6:=λb ps q=>⟨#[],by rw[aC<|dZ q hn,q];simp⟩
def Un.write{H:Hp}{h:Heap}{h':Heap}{e:Addr}(mu:Qa (H x))(he:e=x\/H e=some (.own x))(k:∀b u,b≠e->h.get? b=some u->h'.get? b=some u)(YK:∃u,h'.get? e=some u):Un fs ex H (c6 H x o) h h':=by
 have hx:∀b,H b=none->b≠x:=λb n z=>by subst z;rw[n]at mu;exact mu
 have hb:∀b,H b=none->b≠e:=λb n z=>by
  subst z;rcases he with r |r;·exact hx b n r
  ·rw[n]at r;cases r
 have hm:∀b u,H b=some u->¬Qa (some u)->b≠x:=λb u q nm z=>by subst z;rw[q]at mu;exact nm mu
 refine⟨λb u q n _ _=>k b u (hb b n) q,λb u q n _ _=>⟨u.slots,k b u (hb b n) q⟩,λb u q n _=>by rw[aC<|hx b n];exact n,λb u q _=>?_,λb xs q=>by rw[aC (hm b _ q λz=>z)];exact q,λb u xs q=>by rw[aC (hm b _ q λz=>z)];exact q,λb ps q=>⟨#[],by rw[aC (hm b _ q λz=>z),q];simp⟩⟩;by_cases Yw:b=e;·subst Yw;exact YK
 ·exact⟨u,k b u Yw q⟩
def PV(h:Heap)(H:Hp):List Addr:=(List.range h.objs.size).filter λa=>(H a).isSome
def xR(h:Heap)(H:Hp):Heap:=PySem.W.hideAll h<|PV h H
def FG(h:Heap)(H:Hp):(xR h H).objs.size=h.objs.size:=PySem.W.hideAll_size _ _
def HR{h:Heap}{H:Hp}{b:Addr}(e:h.get? b=some o)(n:H b=none):(xR h H).get? b=some o:=pW _ e λhm=>by have q:(H b).isSome=true:=(List.mem_filter.mp hm).2;rw[n]at q;simp at q
def JW{b:Addr}(e:(xR h H).get? b=some o):h.get? b=some o/\H b=none:=by have e':h.get? b=some o:=PySem.W.of_hideAll (PV h H) e;refine⟨e',?_⟩;cases q:H b with|none=>rfl|some x=>have hm:b∈PV h H:=List.mem_filter.mpr ⟨List.mem_range.mpr<|aH e',by simp[q]⟩;have z:(xR h H).get? b=none:=PySem.W.hideAll_none (PV h H) hm;rw[z]at e;cases e
def KG(g h:Heap)(L:Addr):fR:=(List.range h.objs.size).filterMap λa=>if a=L\/(g.get? a).isSome=true then none else(h.get? a).map λo=>(a,o)
def bJ(g h:Heap)(L d:Addr):fR:=(KG g h L).filter λp=>decide<|p.1≠d
structure Mod(K:ce)(mg:rG)(base:Heap):Prop where
 WW:K.In base
 glob:base.Ns mainGlobals mg
 blt:∃mb,base.Ns builtinsNs mb/\∀x:Str,x≠"__name__"->mb x=bootBuiltins x
 nolimit:base.NoLimit
 seer:base.NoSeer
structure Cx where
 prog:Program
 w:World
 K:ce
 mg:Str->Option Value
 base:Heap
 A:Around
 N:cH
 s₀:Shared
 H₀:Hp
 env:Env
 outer:List Env
 stack:List Env
 ex:List Addr
 fn:Str->Bool
 calm:Bool
 pn:fR
 xe:Value->Shared->Prop
abbrev dR(X:Cx){α:Type}(m:Sem α)(Q:α->Shared->Prop)(E:Value->Shared->Prop)(s:Shared):Prop:=wpAny (model X.prog X.w) X.A m Q E s
def qS(l:List Env):List Addr:=l.filterMap (·.frame)
abbrev Cx.fs(X:Cx):List Addr:=qS X.outer
def Pm(sc:Scope)(x:Str):Prop:=sc.names.lookup x=some .local\/sc.names.lookup x=some .cell\/sc.names.lookup x=some .free
def NO(sc:Scope)(x:Str):Prop:=sc.names.lookup x=some .local\/sc.names.lookup x=some .cell
def Rn(env:Env)(h:Heap)(m:rG)(x:Str)(u:Value):Prop:=(env.kindOf x=some .local/\m x=some u)\/((env.kindOf x=some .cell\/env.kindOf x=some .free)/\∃c,env.cells.lookup x=some c/\h.IsCell c (some u))
structure Cx.Ok(X:Cx):Prop where
 mod:Mod X.K X.mg X.base
 kind:X.env.scope.kind=.function
 glob:X.env.globals=mainGlobals
 blt:X.env.builtins=builtinsNs
 above:X.s₀.heap.objs.size<=X.env.locals
 inj:∀x y c,X.env.cells.lookup x=some c->X.env.cells.lookup y=some c->x=y
 has:∀x,(X.env.kindOf x=some .cell\/X.env.kindOf x=some .free)->∃c,X.env.cells.lookup x=some c
 YQ:∀x c,X.fn x=true->X.env.cells.lookup x=some c->X.s₀.heap.objs.size<=c
 hd:X.calm=true->X.A.handled=none
 frames:X.A.frames=some X.stack
 UN:X.stack=X.outer\/(X.stack=X.env::X.outer/\X.env.frame=some X.env.locals)
 Z2:∀b∈X.ex,b≠X.env.locals/\∀x c,X.env.cells.lookup x=some c->c≠b
 bs:∀b o,X.base.get? b=some o->X.s₀.heap.get? b=some o/\X.H₀ b=none
 Xg:X.base.objs.size<=X.s₀.heap.objs.size
 Ue:∀b o,X.base.get? b=some o->b∉X.ex
 Ww:∀b∈X.ex,b∉X.fs
 UK:X.s₀.heap.FunFrames X.base X.outer
 X4:∀b∈X.fs,X.H₀ b=none
structure Inv(X:Cx)(pins:fR)(σ:List (Option V))(H:Hp)(s:Shared):Prop where
 ok:X.Ok
 os:s.os=X.s₀.os
 bare:AllBare s.gens
 base:Un X.fs X.ex X.H₀ H X.s₀.heap s.heap
 loc:∃m,s.heap.Ns X.env.locals m/\∀(i:Nat)(x:Str)(v:V),X.N[i]?=some x->σ[i]?=some (some v)->Pm X.env.scope x->∃u,RelV v u/\Rn X.env s.heap m x u
 cell:∀x c,X.env.cells.lookup x=some c->∃v,s.heap.IsCell c v
 free:H X.env.locals=none
 TV:∀x c,X.env.cells.lookup x=some c->H c=none
 pin:∀p∈X.pn++pins,s.heap.get? p.1=some p.2/\H p.1=none/\p.1≠X.env.locals/\p.1∉X.fs/\∀v,p.2.data≠.cell v
 SA:U5 X.prog X.w H s.heap
 len:σ.length=X.N.length
section
variable {σ:List (Option V)}
def Cx.Ok.zB0{b:Addr}{X:Cx}(ok:X.Ok)(e:X.base.get? b=some o):b∉X.fs:=λhb=>by have:=(ok.UK.mem hb).1;rw[e]at this;cases this
def Inv.bs(I:Inv X pins σ H s):∀b o,X.base.get? b=some o->s.heap.get? b=some o/\H b=none:=λb o e=>⟨I.base.keep b o (I.ok.bs b o e).1 (I.ok.bs b o e).2 (I.ok.zB0 e)<|I.ok.Ue b o e,I.base.free b o (I.ok.bs b o e).1 (I.ok.bs b o e).2<|I.ok.Ue b o e⟩
def Inv.bk(I:Inv X pins σ H s):∀b o,X.base.get? b=some o->s.heap.get? b=some o:=λb o e=>(I.bs b o e).1
def Inv.mod(I:Inv X pins σ H s):Mod X.K X.mg X.base:=I.ok.mod
def Inv.UP(I:Inv X pins σ H s):X.K.In s.heap:=I.ok.mod.WW.keeps I.bk
def Inv.nolimit(I:Inv X pins σ H s):s.heap.NoLimit:=I.ok.mod.nolimit.keeps I.bk
def Inv.lt(I:Inv X pins σ H s):X.env.locals<s.heap.objs.size:=let⟨_,hn,_⟩:=I.loc;hn.lt
def Inv.sz(I:Inv X pins σ H s):X.s₀.heap.objs.size<=s.heap.objs.size:=ao I.ok.above<|Gh I.lt
def Inv.zBZ{a:Addr}(I:Inv X pins σ H s)(h:s.heap.objs.size<=a):a∉X.fs:=λhb=>by obtain⟨_,o,ho,_⟩:=I.ok.UK.mem hb;exact absurd (aW (aH ho)<|ao I.sz h)<|eT _
def Inv.XJ(I:Inv X pins σ H s):∀x c,X.env.cells.lookup x=some c->c≠X.env.locals:=λx c e z=>by obtain⟨v,o,ho,hd⟩:=I.cell x c e;obtain⟨m,⟨o',es,ep,Yq,VR,_⟩,_⟩:=I.loc;rw[z,Yq]at ho;cases ho;rw[VR]at hd;cases hd
def Inv.UK(I:Inv X pins σ H s):s.heap.FunFrames X.base X.outer:=by
 have all:∀(l:List Env),(∀b∈qS l,b∈X.fs)->X.s₀.heap.FunFrames X.base l->s.heap.FunFrames X.base l:=by intro l;induction l with|nil=>intro _ _;trivial|cons env r ih=>intro hs hl;obtain⟨hk,⟨L,o,hf,hn,ho,hd⟩,hr⟩:=hl;have hL:L∈X.fs:=hs L (by unfold qS;rw[jS,hf];exact bX);obtain⟨sl,e⟩:=I.base.slot L o ho (I.ok.X4 L hL) hL λz=>I.ok.Ww L z hL;exact⟨hk,⟨L,_,hf,hn,e,hd⟩,ih (λb hb=>hs b<|by unfold qS;rw[jS,hf];exact aM _ hb) hr⟩
 exact all X.outer (λ_ hb=>hb) I.ok.UK
def Inv.stack(I:Inv X pins σ H s):s.heap.FunFrames X.base X.stack:=by
 rcases I.ok.UN with e |⟨e,hf⟩;·rw[e];exact I.UK
 ·rw[e];obtain⟨m,hn,_⟩:=I.loc;refine .cons (by rw[I.ok.kind];decide) hf hn ?_ I.UK;exact Heap.get?_none_of_le<|ao I.ok.Xg I.ok.above
def Inv.Vj(I:Inv X pins σ H s):∀b∈qS X.stack,b∈X.env.locals::X.fs:=λb hb=>by
 rcases I.ok.UN with e |⟨e,hf⟩;·rw[e]at hb;exact aM _ hb
 ·rw[e]at hb;unfold qS at hb;rw[jS,hf]at hb;exact hb
def Inv.Vf(I:Inv X pins σ H s):∀b∈qS X.stack,H b=none:=λb hb=>by
 rcases List.mem_cons.mp (I.Vj b hb)with e |hb;·rw[e];exact I.free
 ·obtain⟨_,o,ho,_⟩:=I.ok.UK.mem hb;exact I.base.free b o ho (I.ok.X4 b hb) λz=>I.ok.Ww b z hb
def Inv.step{t':Nat}{ch:List Addr}{H':Hp}{h':Heap}{g':Array GenState}{d':Drawn}(I:Inv X pins σ H s)(Xd:∀b∈ch,(b∈X.ex\/X.s₀.heap.objs.size<=b)/\b≠X.env.locals/\(∀x c,X.env.cells.lookup x=some c->c≠b)/\∀p∈X.pn++pins,p.1≠b)(keep:∀b o,b≠X.env.locals->b∉X.fs->b∉ch->s.heap.get? b=some o->H b=none->h'.get? b=some o)(slot:∀b o,b≠X.env.locals->b∈X.fs->b∉ch->s.heap.get? b=some o->H b=none->∃sl,h'.get? b=some {o with slots:=sl})(free:∀b o,b∉ch->s.heap.get? b=some o->H b=none->H' b=none)(there:∀b o,b∉ch->s.heap.get? b=some o->∃o',h'.get? b=some o')(TZ:∀b xs,H b=some (.tup xs)->H' b=some (.tup xs))(TC:∀b o u,H b=some (.TB o u)->H' b=some (.TB o u))(T6:∀b ps,H b=some (.WA ps)->∃more,H' b=some (.WA<|ps++more))(ns:∀m,s.heap.Ns X.env.locals m->h'.Ns X.env.locals m)(SA:U5 X.prog X.w H' h')(hg:AllBare g'):Inv X pins σ H' {s with heap:=h',gens:=g',drawn:=d',toks:=t'}:=by
 have YH:∀b o,X.s₀.heap.get? b=some o->b≠X.env.locals:=λb o e=>bw<|aW (aH e) I.ok.above;have neC:∀b o,X.s₀.heap.get? b=some o->b∉X.ex->b∉ch:=λb o e hx hb=>by
  rcases(Xd b hb).1 with z |z;·exact hx z
  ·exact absurd (aW (aH e) z)<|eT _
 have cellK:∀x c,X.env.cells.lookup x=some c->∀v,s.heap.IsCell c v->h'.IsCell c v:=λx c e v ⟨o,ho,hd⟩=>by
  have Zm:c∉ch:=λz=>(Xd c z).2.2.1 x c e rfl;by_cases hc:c∈X.fs;·obtain⟨sl,q⟩:=slot c o (I.XJ x c e) hc Zm ho<|I.TV x c e;exact⟨_,q,hd⟩
  ·exact⟨o,keep c o (I.XJ x c e) hc Zm ho<|I.TV x c e,hd⟩
 refine⟨I.ok,I.os,hg,⟨λb o e n hb hx=>?_,λb o e n hb hx=>?_,λb o e n hx=>?_,λb o e hx=>?_,λb xs e=>TZ b xs<|I.base.TZ b xs e,λb o xs e=>TC b o xs<|I.base.TC b o xs e,λb ps e=>?_⟩,?_,λx c e=>?_,?_,λx c e=>?_,λp hp=>?_,SA,I.len⟩;·exact keep b o (YH b o e) hb (neC b o e hx) (I.base.keep b o e n hb hx)<|I.base.free b o e n hx
 ·obtain⟨sl,e1⟩:=I.base.slot b o e n hb hx;obtain⟨sl',e2⟩:=slot b _ (YH b o e) hb (neC b o e hx) e1<|I.base.free b o e n hx;exact⟨sl',e2⟩
 ·obtain⟨o',e1⟩:=I.base.there b o e hx;exact free b o' (neC b o e hx) e1<|I.base.free b o e n hx
 ·obtain⟨o',e1⟩:=I.base.there b o e hx;exact there b o' (neC b o e hx) e1
 ·obtain⟨m1,e1⟩:=I.base.T6 b ps e;obtain⟨m2,e2⟩:=T6 b _ e1;exact⟨m1++m2,by rw[e2,Array.append_assoc]⟩
 ·obtain⟨m,hn,hl⟩:=I.loc;refine⟨m,ns m hn,λi x v e1 e2 e3=>?_⟩;obtain⟨u,r,l⟩:=hl i x v e1 e2 e3;refine⟨u,r,?_⟩;rcases l with l |⟨k,c,e,z⟩;·exact .inl l
  ·exact .inr ⟨k,c,e,cellK x c e _ z⟩
 ·obtain⟨v,z⟩:=I.cell x c e;exact⟨v,cellK x c e v z⟩
 ·obtain⟨m,⟨o,_,_,ho,_⟩,_⟩:=I.loc;exact free _ o (λz=>(Xd _ z).2.1 rfl) ho I.free
 ·obtain⟨v,o,ho,hd⟩:=I.cell x c e;exact free c o (λz=>(Xd c z).2.2.1 x c e rfl) ho<|I.TV x c e
 ·obtain⟨e,n,ne,nf,d⟩:=I.pin p hp;have Zm:p.1∉ch:=λz=>(Xd p.1 z).2.2.2 p hp rfl;exact⟨keep p.1 p.2 ne nf Zm e n,free p.1 p.2 Zm e n,ne,nf,d⟩
def Inv.un{t':Nat}(I:Inv X pins σ H s)(u:Un X.fs [] H H' s.heap h')(SA:U5 X.prog X.w H' h'):Inv X pins σ H' {s with heap:=h',toks:=t'}:=by obtain⟨m,⟨o,es,ep,ho,r⟩,_⟩:=id I.loc;obtain⟨sl,hL⟩:=u.any ho I.free (by simp);exact I.step (g':=s.gens) (d':=s.drawn) (ch:=[]) (λ_ z=>nomatch z) (λb o _ hb _ e n=>u.keep b o e n hb<|by simp) (λb o _ hb _ e n=>u.slot b o e n hb<|by simp) (λb o _ e n=>u.free b o e n<|by simp) (λb o _ e=>u.there b o e<|by simp) u.TZ u.TC u.T6 (λm' hm=>by obtain⟨o',YN,ep',Yq,r'⟩:=hm;rw[ho]at Yq;cases Yq;exact⟨_,YN,ep',hL,r'⟩) SA I.bare
def Inv.call{t':Nat}{g':Array GenState}{d':Drawn}(I:Inv X pins σ H s)(u:Un (qS X.stack) ch H H' s.heap h')(SA:U5 X.prog X.w H' h')(hg:AllBare g')(Xd:∀b∈ch,(b∈X.ex\/X.s₀.heap.objs.size<=b)/\b≠X.env.locals/\(∀x c,X.env.cells.lookup x=some c->c≠b)/\∀p∈X.pn++pins,p.1≠b):Inv X pins σ H' {s with heap:=h',gens:=g',drawn:=d',toks:=t'}:=by obtain⟨m,⟨o,es,ep,ho,r⟩,_⟩:=id I.loc;obtain⟨sl,hL⟩:=u.any ho I.free λz=>(Xd _ z).2.1 rfl;exact I.step (ch:=ch) Xd (λb o hL hb hc e n=>u.keep b o e n (λz=>(List.mem_cons.mp<|I.Vj b z).elim hL hb) hc) (λb o _ _ hc e n=>u.any e n hc) (λb o hc e n=>u.free b o e n hc) (λb o hc e=>u.there b o e hc) u.TZ u.TC u.T6 (λm' hm=>by obtain⟨o',YN,ep',Yq,r'⟩:=hm;rw[ho]at Yq;cases Yq;exact⟨_,YN,ep',hL,r'⟩) SA hg
def Inv.turned{t':Nat}{it:Addr}{h':Heap}(I:Inv X pins σ H s)(k:∀b o,b≠it->s.heap.get? b=some o->h'.get? b=some o)(hn:H it=none)(hL:it≠X.env.locals)(h1:it∈X.ex\/X.s₀.heap.objs.size<=it)(h2:∀x c,X.env.cells.lookup x=some c->c≠it)(h3:∀p∈X.pn++pins,p.1≠it):Inv X pins σ H {s with heap:=h',toks:=t'}:=by
 have nit:∀b u,H b=some u->b≠it:=λb u e z=>by rw[z,hn]at e;cases e
 refine I.step (g':=s.gens) (d':=s.drawn) (ch:=[it]) (λb hb=>?_) (λb o _ _ hc e _=>k b o (λz=>hc<|by simp[z]) e) (λb o _ _ hc e _=>⟨o.slots,k b o (λz=>hc<|by simp[z]) e⟩) (λ_ _ _ _ n=>n) (λb o hc e=>⟨o,k b o (λz=>hc<|by simp[z]) e⟩) (λ_ _ e=>e) (λ_ _ _ e=>e) (λb ps e=>⟨#[],by rw[e];simp⟩) (λm hm=>?_) (λb u e=>?_) I.bare
 ·have e:b=it:=by simpa using hb
  subst e;exact⟨h1,hL,h2,h3⟩
 ·obtain⟨o,es,ep,ho,r⟩:=hm;exact⟨o,es,ep,k _ o (cV hL) ho,r⟩
 ·refine(I.SA b u e).Vp (λc v hc q=>k c v ?_ q) (λ_ q=>q) λ_ _ q=>q;rcases hc with z |z;·rw[z];exact nit b u e
  ·exact nit c _ z
def Inv.tok(I:Inv X pins σ H s)(t:Nat):Inv X pins σ H {s with toks:=t}:=I.un (h':=s.heap) (t':=t) Un.refl I.SA
def Inv.kept{t':Nat}{h':Heap}(I:Inv X pins σ H s)(k:∀b u,s.heap.get? b=some u->h'.get? b=some u):Inv X pins σ H {s with heap:=h',toks:=t'}:=I.un (Un.kept k)<|I.SA.kept k
def Inv.laid{a:Addr}{t':Nat}{h':Heap}(I:Inv X pins σ H s)(k:∀b u,s.heap.get? b=some u->h'.get? b=some u)(hp:s.heap.objs.size<=a)(new:Su X.prog X.w (c6 H a o) h' a o):Inv X pins σ (c6 H a o) {s with heap:=h',toks:=t'}:=I.un (Un.laid k hp<|I.SA.fresh hp)<|I.SA.laid k hp new
def Inv.write{e:Addr}{t':Nat}{h':Heap}(I:Inv X pins σ H s)(mu:Qa (H x))(he:e=x\/H e=some (.own x))(k:∀b u,b≠e->s.heap.get? b=some u->h'.get? b=some u)(YK:∃u,h'.get? e=some u)(new:Su X.prog X.w (c6 H x o) h' x o):Inv X pins σ (c6 H x o) {s with heap:=h',toks:=t'}:=I.un (Un.write mu he k YK)<|I.SA.write mu he k YK new
def Inv.Wg{Tq:fR}(I:Inv X pins σ H s)(h:∀p∈Tq,s.heap.get? p.1=some p.2/\H p.1=none/\p.1≠X.env.locals/\p.1∉X.fs/\∀v,p.2.data≠.cell v):Inv X Tq σ H s:=⟨I.ok,I.os,I.bare,I.base,I.loc,I.cell,I.free,I.TV,λp hp=>(List.mem_append.mp hp).elim (λz=>I.pin p<|eY _ z)<|h p,I.SA,I.len⟩
def wg{N:cH}{i j:Nat}(hN:N.Nodup)(a:N[i]?=some x)(b:N[j]?=some x):i=j:=by obtain⟨h1,e1⟩:=List.getElem?_eq_some_iff.mp a;obtain⟨h2,e2⟩:=List.getElem?_eq_some_iff.mp b;exact(List.getElem_inj hN).mp<|e1.trans e2.symm
def yr{i:Nat}{Q:Unit->Shared->Prop}(I:Inv X pins σ H s)(hN:X.N.Nodup)(hi:X.N[i]?=some x)(hx:NO X.env.scope x)(r:RelV v u)(h:∀s',Inv X pins (σ.set i<|some v) H s'->(∃a,Heap.SameBut a s.heap s'.heap/\(a=X.env.locals\/X.env.cells.lookup x=some a))->Q () s')(hf:X.fn x=true\/X.env.scope.names.lookup x=some .local:=by first |exact .inl rfl |exact .inr rfl |assumption):wpAny M A (storeName X.env x u) Q E s:=by
 obtain⟨m,hn,hl⟩:=id I.loc;have Yv:(X.env.scope.kind==.class||(X.env.scope.kind==.module&&X.env.locals !=X.env.globals))=false:=by rw[I.ok.kind];rfl
 have hiσ:i<σ.length:=by rw[I.len];exact(List.getElem?_eq_some_iff.mp hi).1
 have XJ:=I.XJ;have tracked:∀{a:Addr}{h':Heap},(∃o,s.heap.get? a=some o/\H a=none)->Heap.SameBut a s.heap h'->U5 X.prog X.w H h':=λ{a h'}ha hs b ob e=>by
  obtain⟨_,_,UU⟩:=ha;refine(I.SA b ob e).Vp (λc w' hc q=>(hs.2 c ?_).trans q) (λ_ q=>q) λ_ _ q=>q;rintro rfl;rcases hc with rfl |hc;·rw[UU]at e;cases e
  ·rw[UU]at hc;cases hc
 rcases hx with hk |hk
 ·refine wpAny_storeName_local hk hn (λh' Ux hs=>?_) Yv;obtain⟨oL,_,_,hoL,_⟩:=id hn;refine h _ ⟨I.ok,I.os,I.bare,⟨λb o e n hb hx=>?_,λb o e n hb hx=>?_,I.base.free,λb o e hx=>?_,I.base.TZ,I.base.TC,I.base.T6⟩,⟨_,Ux,λj y v' e1 e2 e3=>?_⟩,λy c e=>?_,I.free,I.TV,λp hp=>?_,tracked ⟨oL,hoL,I.free⟩ hs,by simpa using I.len⟩ ⟨_,hs,.inl rfl⟩;·exact(hs.2 b<|bw<|aW (aH e) I.ok.above).trans<|I.base.keep b o e n hb hx
  ·obtain⟨sl,e1⟩:=I.base.slot b o e n hb hx;exact⟨sl,(hs.2 b<|bw<|aW (aH e) I.ok.above).trans e1⟩
  ·obtain⟨o',e1⟩:=I.base.there b o e hx;exact⟨o',(hs.2 b<|bw<|aW (aH e) I.ok.above).trans e1⟩
  ·by_cases hj:j=i;·subst hj;rw[hi]at e1;cases e1;rw[List.getElem?_set_self hiσ]at e2;cases e2;exact⟨u,r,.inl ⟨hk,by simp⟩⟩
   ·rw[List.getElem?_set_ne<|cV hj]at e2;obtain⟨u',r',q⟩:=hl j y v' e1 e2 e3;refine⟨u',r',?_⟩;rcases q with⟨k,e⟩ |⟨k,c,e,z⟩;·refine .inl ⟨k,?_⟩;have:y≠x:=λe=>hj<|wg hN e1<|e▸hi;simp[this,e]
    ·exact .inr ⟨k,c,e,z.sameBut hs<|XJ y c e⟩
  ·obtain⟨w',z⟩:=I.cell y c e;exact⟨w',z.sameBut hs<|XJ y c e⟩
  ·obtain⟨e,n,ne,nf,d⟩:=I.pin p hp;exact⟨(hs.2 p.1 ne).trans e,n,ne,nf,d⟩
 ·have hfn:X.fn x=true:=by
   rcases hf with z |z;·exact z
   ·rw[z]at hk;cases hk
  obtain⟨c,hc⟩:=I.ok.has x<|.inl hk;obtain⟨w',z⟩:=I.cell x c hc;refine wpAny_storeName_cell I.ok.kind hk hc z λh' V0 hs=>?_;obtain⟨oc,ZA,zCI⟩:=id z;refine h {s with heap:=h'} ⟨I.ok,I.os,I.bare,⟨λb o e n hb hx=>?_,λb o e n hb hx=>?_,I.base.free,λb o e hx=>?_,I.base.TZ,I.base.TC,I.base.T6⟩,⟨m,hn.sameBut hs<|cV<|XJ x c hc,λj y v' e1 e2 e3=>?_⟩,λy c' e=>?_,I.free,I.TV,λp hp=>?_,tracked ⟨oc,ZA,I.TV x c hc⟩ hs,by simpa using I.len⟩ ⟨c,hs,.inr hc⟩;·exact(hs.2 b<|bw<|aW (aH e)<|I.ok.YQ x c hfn hc).trans<|I.base.keep b o e n hb hx
  ·obtain⟨sl,e1⟩:=I.base.slot b o e n hb hx;exact⟨sl,(hs.2 b<|bw<|aW (aH e)<|I.ok.YQ x c hfn hc).trans e1⟩
  ·obtain⟨o',e1⟩:=I.base.there b o e hx;exact⟨o',(hs.2 b<|bw<|aW (aH e)<|I.ok.YQ x c hfn hc).trans e1⟩
  ·by_cases hj:j=i;·subst hj;rw[hi]at e1;cases e1;rw[List.getElem?_set_self hiσ]at e2;cases e2;exact⟨u,r,.inr ⟨.inl hk,c,hc,V0⟩⟩
   ·rw[List.getElem?_set_ne<|cV hj]at e2;obtain⟨u',r',q⟩:=hl j y v' e1 e2 e3;refine⟨u',r',?_⟩;rcases q with q |⟨k,c',e,z'⟩;·exact .inl q
    ·refine .inr ⟨k,c',e,z'.sameBut hs ?_⟩;rintro rfl;exact hj<|wg hN e1<|I.ok.inj _ _ _ e hc▸hi
  ·by_cases hcc:c'=c;·subst hcc;exact⟨_,V0⟩
   ·obtain⟨w2,z2⟩:=I.cell y c' e;exact⟨w2,z2.sameBut hs hcc⟩
  ·obtain⟨e,n,ne,nf,d⟩:=I.pin p hp;refine⟨(hs.2 p.1 ?_).trans e,n,ne,nf,d⟩;intro q;rw[q,ZA]at e;have q':oc=p.2:=bz e;exact d w'<|by rw[<-q'];exact zCI
def mw{i:Nat}{Q:Unit->Shared->Prop}(I:Inv X pins σ H s)(hN:X.N.Nodup)(hi:X.N[i]?=some x)(hx:NO X.env.scope x)(r:RelV v u)(h:∀s',Inv X pins (σ.set i<|some v) H s'->Q () s')(hf:X.fn x=true\/X.env.scope.names.lookup x=some .local:=by first |exact .inl rfl |exact .inr rfl |assumption):wpAny M A (storeName X.env x u) Q E s:=yr I hN hi hx r (λs' I' _=>h s' I') hf
def Inv.X8{s':Shared}(I:Inv X pins σ H s)(ho:s'.os=s.os)(u:Un (qS X.stack) ch H H' s.heap s'.heap)(SA:U5 X.prog X.w H' s'.heap)(hg:AllBare s'.gens)(Xd:∀b∈ch,(b∈X.ex\/X.s₀.heap.objs.size<=b)/\b≠X.env.locals/\(∀x c,X.env.cells.lookup x=some c->c≠b)/\∀p∈X.pn++pins,p.1≠b):Inv X pins σ H' s':=by obtain⟨h',g',d',t',o'⟩:=s';have e:o'=s.os:=ho;subst e;exact I.call (g':=g') (t':=t') (d':=d') u SA hg Xd
end
abbrev XK:=Value->Option Addr->Hp->Prop
abbrev St:=List<|Option V
abbrev VK:=V->Hp->Prop
abbrev TE:=St->Hp->VK->Prop
abbrev TT:=St->Hp->(Bool->Hp->Prop)->Prop
abbrev TA:=St->Hp->(dw->Hp->Prop)->Prop
structure kP where
 nx:St->Hp->Prop
 rt:VK
 bk:St->Hp->Prop:=λ_ _=>False
 ct:St->Hp->Prop:=λ_ _=>False
abbrev TS:=kP->St->Hp->Prop
def EP(X:Cx)(pins:fR)(σ:St)(Q:VK)(u:Value)(s':Shared):Prop:=∃v H',Inv X pins σ H' s'/\RelV v u/\Q v H'
def TP(X:Cx)(pins:fR)(σ:St)(Q:Bool->Hp->Prop)(b:Bool)(s':Shared):Prop:=∃H',Inv X pins σ H' s'/\Q b H'
def AP(X:Cx)(pins:fR)(σ:St)(Q:dw->Hp->Prop)(us:ir)(s':Shared):Prop:=∃vs H',Inv X pins σ H' s'/\Vals vs us/\Q vs H'
def SP(X:Cx)(pins:fR)(D:kP)(f:Flow)(s':Shared):Prop:=match f with
 |.next=>∃σ' H',Inv X pins σ' H' s'/\D.nx σ' H'|.brk=>∃σ' H',Inv X pins σ' H' s'/\D.bk σ' H'
 |.cont=>∃σ' H',Inv X pins σ' H' s'/\D.ct σ' H'|.ret u=>∃v σ' H',Inv X pins σ' H' s'/\RelV v u/\D.rt v H'
def PE(X:Cx)(e:Expr)(t:TE):Prop:=∀(pins:fR)(s:Shared)(σ:St)(H:Hp)(Q:VK),Inv X pins σ H s->t σ H Q->dR X (eval e X.env) (EP X pins σ Q) X.xe s
def PT(X:Cx)(e:Expr)(t:TT):Prop:=∀(pins:fR)(s:Shared)(σ:St)(H:Hp)(Q:Bool->Hp->Prop),Inv X pins σ H s->t σ H Q->dR X (isTrue e X.env<|eval e X.env) (TP X pins σ Q) X.xe s
def PW(X:Cx)(e:Expr)(t:TT):Prop:=∀(whole:Sem Value)(pins:fR)(s:Shared)(σ:St)(H:Hp)(Q:Bool->Hp->Prop),Inv X pins σ H s->t σ H Q->dR X (isTrue e X.env whole) (TP X pins σ Q) X.xe s
def PA(X:Cx)(es:rH)(t:TA):Prop:=∀(pos:Pos)(pins:fR)(s:Shared)(σ:St)(H:Hp)(Q:dw->Hp->Prop),Inv X pins σ H s->t σ H Q->dR X (spliced<|backTo pos<|starEach es X.env) (AP X pins σ Q) X.xe s
def PS(X:Cx)(st:Stmt)(t:TS):Prop:=∀(pins:fR)(s:Shared)(σ:St)(H:Hp)(D:kP),Inv X pins σ H s->t D σ H->dR X (exec st X.env) (SP X pins D) X.xe s
def Wc(X:Cx)(st:List Stmt)(t:TS):Prop:=∀(pins:fR)(s:Shared)(σ:St)(H:Hp)(D:kP),Inv X pins σ H s->t D σ H->dR X (execs st X.env) (SP X pins D) X.xe s
def dW{α:Type}{t:Sem α}{Q Q':α->Shared->Prop}(h:wpAny M A t Q E s)(hQ:∀a s,Q a s->Q' a s):wpAny M A t Q' E s:=aL h hQ λ_ _ x=>x
section
def bin(ha:PE X a ta)(hb:PE X b tb){R:V->V->Hp->Prop}(I:Inv X pins σ H s)(h:ta σ H λx H1=>tb σ H1 λy H2=>R x y H2){α:Type}{Q:α->Shared->Prop}{f:Value->Value->Sem α}(hf:∀v u s2 x y H2,Inv X pins σ H2 s2->RelV x v->RelV y u->R x y H2->dR X (f v u) Q X.xe s2):dR X (eval a X.env) (λv s₁=>dR X (eval b X.env) (λu s₂=>dR X (f v u) Q X.xe s₂) X.xe s₁) X.xe s:=by refine dW (ha pins s σ H _ I h) λv s1 ⟨x,H1,I1,r1,q1⟩=>?_;refine dW (hb pins s1 σ H1 _ I1 q1) λu s2 ⟨y,H2,I2,r2,q2⟩=>?_;exact hf v u s2 x y H2 I2 r1 r2 q2
def Oh(i:Nat):TE:=λσ H Q=>∃v,σ[i]?=some (some v)/\Q v H
def tC(v:V):TE:=λ_ H Q=>Q v H
def Hj{i:Nat}{X:Cx}(hN:X.N[i]?=some x)(hv:Pm X.env.scope x)(hd:qF x:=by decide)(Wu:(x==("__classdict__":Str))=false:=by decide):PE X (.Name x pos) (Oh i):=by
 intro pins s σ H Q I h;obtain⟨v,e,h⟩:=h;obtain⟨m,hn,hl⟩:=I.loc;obtain⟨u,r,l⟩:=hl i x v hN e hv;have fin:EP X pins σ Q u s:=⟨v,H,I,r,h⟩;rcases l with⟨hk,hm⟩ |⟨hk,c,hc,UW⟩;·exact wpAny_Name (wpAny_loadName_local I.ok.kind hk hn hm fin) hd
 ·rcases hk with hk |hk;·exact wpAny_Name (wpAny_loadName_cell I.ok.kind hk hc UW fin) hd
  ·exact wpAny_Name (wpAny_loadName_free I.ok.kind hk hc UW fin Wu) hd
def Hl{i j pos}:PE X (.Constant (.int i) j pos) (tC<|.int i):=λ_ _ _ H _ I h=>wpAny_Constant_int ⟨.int i,H,I.tok _,⟨_,rfl⟩,h⟩
def OR{b j pos}:PE X (.Constant (.bool b) j pos) (tC<|.bl b):=λ_ _ _ H _ I h=>Constant_bool ⟨.bl b,H,I,rfl,h⟩
def MA{j pos}:PE X (.Constant .none j pos) (tC .Sy):=λ_ _ _ H _ I h=>Constant_none ⟨.Sy,H,I,rfl,h⟩
def De{x j pos}:PE X (.Constant (.str x) j pos) (tC<|.str x):=λ_ _ _ H _ I h=>Calls.Constant_str ⟨.str x,H,I.tok _,⟨_,rfl⟩,h⟩
def Gl(X:Cx)(x:Str):Prop:=X.env.kindOf x=some .globalImplicit
def nc{Q:qh}(I:Inv X pins σ H s)(hg:Gl X x)(hm:X.mg x=some u)(h:Q u s)(hd:qF x:=by decide):dR X (eval (.Name x pos) X.env) Q E s:=R7 I.ok.kind hg (Calls.loadGlobal_global (by rw[I.ok.glob];exact I.mod.glob.keeps I.bk) hm h) hd
def wz{Q:qh}(I:Inv X pins σ H s)(hg:Gl X x)(hm:X.mg x=none)(hv:bootBuiltins x=some u)(h:Q u s)(hn:x≠"__name__":=by decide)(hd:qF x:=by decide):dR X (eval (.Name x pos) X.env) Q E s:=by obtain⟨mb,h1,h2⟩:=I.mod.blt;exact R7 I.ok.kind hg (Calls.loadGlobal_builtin (by rw[I.ok.glob];exact I.mod.glob.keeps I.bk) hm (by rw[I.ok.blt];exact h1.keeps I.bk) ((h2 x hn).trans hv) h) hd
def va(hg:Gl X x)(hm:X.mg x=some u)(r:RelV v u)(hd:qF x:=by decide):PE X (.Name x pos) (tC v):=λ_ _ _ H _ I h=>nc I hg hm ⟨v,H,I,r,h⟩ hd
def Ao(hg:Gl X x)(hm:X.mg x=none)(hv:bootBuiltins x=some u)(r:RelV v u)(hn:x≠"__name__":=by decide)(hd:qF x:=by decide):PE X (.Name x pos) (tC v):=λ_ _ _ H _ I h=>wz I hg hm hv ⟨v,H,I,r,h⟩ hn hd
def PC(X:Cx)(op:CmpOp)(a b:Expr)(t:TE):Prop:=∀(pins:fR)(s:Shared)(σ:St)(H:Hp)(Q:VK),Inv X pins σ H s->t σ H Q->dR X (eval a X.env) (λv s₁=>dR X (eval b X.env) (λu s₂=>dR X (compareOp op v u) (EP X pins σ Q) X.xe s₂) X.xe s₁) X.xe s
def dF(b:Expr){op:CmpOp}(h:op≠.In)(h2:op≠.NotIn):behindInMarks op b=false:=by
 have e1:(op==CmpOp.In)=false:=by cases op<;>first |rfl |exact absurd rfl h
 have e2:(op==CmpOp.NotIn)=false:=by cases op<;>first |rfl |exact absurd rfl h2
 cases b<;>simp[behindInMarks,e1,e2]
def tB(t:TE):TT:=λσ H Q=>t σ H λx H1=>∃c,x=.bl c/\Q c H1
def QN{op:CmpOp}(h:PC X op a b t)(h1:behindInMarks op b=false:=by first |exact dF _ (by decide) (by decide) |rfl):PT X (.Compare a [op] [b] pos) (tB t):=by intro pins s σ H Q I hw;refine wpAny_isTrue_Compare1 (dW (h pins s σ H _ I hw) λv s1 h1=>dW h1 λu s2 h2=>dW h2 λc s3 ⟨x,H1,I1,r1,q1⟩=>?_) h1;obtain⟨d,rfl,q⟩:=q1;cases r1;exact eF ⟨H1,I1,q⟩
def Mp(h:PE X e t)(he:∀whole,isTrue e X.env whole=(do let v <-whole;standAt e.pos;holding [v] (truthy v)):=by intro _;rfl):PT X e (tB t):=by intro pins s σ H Q I hw;refine isTrue_plain (dW (h pins s σ H _ I hw) λv s1 ⟨x,H1,I1,r1,q1⟩=>?_)<|he _;obtain⟨d,rfl,q⟩:=q1;cases r1;exact eF ⟨H1,I1,q⟩
variable {tA tB':TT}{bJ:rH}
def QE(t u:TT):TT:=λσ H Q=>t σ H λc H1=>if c=true then u σ H1 Q else Q false H1
def RO(t u:TT):TT:=λσ H Q=>t σ H λc H1=>if c=true then Q true H1 else u σ H1 Q
def Qw(t:TT):TT:=λσ H Q=>t σ H λc H1=>Q (!c) H1
def JF(ha:PT X a tA):PW X (.BoolOp .And [a] pos) tA:=by intro wh pins s σ H Q I h;refine isTrue_and (dW (ha pins s σ H Q I h) λc s1 e=>?_);cases c with|true=>exact isTrue_and_nil e|false=>exact e
def Mo(ha:PT X a tA):PW X (.BoolOp .Or [a] pos) tA:=by intro wh pins s σ H Q I h;refine isTrue_or (dW (ha pins s σ H Q I h) λc s1 e=>?_);cases c with|false=>exact isTrue_or_nil e|true=>exact e
def G7(ha:PT X a tA)(hb:PW X (.BoolOp .And (b::bJ) pos) tB'):PW X (.BoolOp .And (a::b::bJ) pos) (QE tA tB'):=by intro wh pins s σ H Q I h;refine isTrue_and (dW (ha pins s σ H _ I h) λc s1 ⟨H1,I1,q1⟩=>?_);cases c with|true=>exact hb wh pins s1 σ H1 Q I1 q1|false=>exact⟨H1,I1,q1⟩
def Lb(ha:PT X a tA)(hb:PW X (.BoolOp .Or (b::bJ) pos) tB'):PW X (.BoolOp .Or (a::b::bJ) pos) (RO tA tB'):=by intro wh pins s σ H Q I h;refine isTrue_or (dW (ha pins s σ H _ I h) λc s1 ⟨H1,I1,q1⟩=>?_);cases c with|true=>exact⟨H1,I1,q1⟩|false=>exact hb wh pins s1 σ H1 Q I1 q1
def Mq(ha:PT X a tA):PT X (.UnaryOp .Not a pos) (Qw tA):=by intro pins s σ H Q I h;exact isTrue_not<|ha pins s σ H (λc H1=>Q (!c) H1) I h
def Ow(ta tb:TE):TE:=λσ H Q=>ta σ H λx H1=>∃c,x=.bl c/\if c=true then tb σ H1 Q else Q (.bl false) H1
def Qv(ta tb:TE):TE:=λσ H Q=>ta σ H λx H1=>∃c,x=.bl c/\if c=true then Q (.bl true) H1 else tb σ H1 Q
def Om(ta:TE):TE:=λσ H Q=>ta σ H λx H1=>∃c,x=.bl c/\Q (.bl (!c)) H1
def Mx{op}(h:PE X a t):PE X (.BoolOp op [a] pos) t:=λpins s σ H Q I hw=>BoolOp_one<|h pins s σ H Q I hw
def Hn(ha:PE X a ta)(hb:PE X (.BoolOp .And (b::bJ) pos) tb):PE X (.BoolOp .And (a::b::bJ) pos) (Ow ta tb):=by intro pins s σ H Q I h;refine BoolOp_and (dW (ha pins s σ H _ I h) λv s1 ⟨x,H1,I1,r1,q1⟩=>?_);obtain⟨c,rfl,q1⟩:=q1;cases r1;refine eF ?_;cases c with|true=>exact hb pins s1 σ H1 Q I1 q1|false=>exact⟨.bl false,H1,I1,rfl,q1⟩
def Le(ha:PE X a ta)(hb:PE X (.BoolOp .Or (b::bJ) pos) tb):PE X (.BoolOp .Or (a::b::bJ) pos) (Qv ta tb):=by intro pins s σ H Q I h;refine BoolOp_or (dW (ha pins s σ H _ I h) λv s1 ⟨x,H1,I1,r1,q1⟩=>?_);obtain⟨c,rfl,q1⟩:=q1;cases r1;refine eF ?_;cases c with|false=>exact hb pins s1 σ H1 Q I1 q1|true=>exact⟨.bl true,H1,I1,rfl,q1⟩
def Mz(ha:PE X a ta):PE X (.UnaryOp .Not a pos) (Om ta):=by intro pins s σ H Q I h;refine UnaryOp_ (dW (ha pins s σ H _ I h) λv s1 ⟨x,H1,I1,r1,q1⟩=>?_);obtain⟨c,rfl,q1⟩:=q1;cases r1;exact not_of<|eF ⟨.bl (!c),H1,I1,rfl,q1⟩
def RP(t:TT)(ta tb:TE):TE:=λσ H Q=>t σ H λc H1=>if c=true then ta σ H1 Q else tb σ H1 Q
def si(hc:PT X c tA)(ha:PE X a ta)(hb:PE X b tb):PE X (.IfExp c a b pos) (RP tA ta tb):=by intro pins s σ H Q I h;refine wpAny_IfExp (dW (hc pins s σ H _ I h) λd s1 ⟨H1,I1,q1⟩=>?_);cases d with|true=>exact ha pins s1 σ H1 Q I1 q1|false=>exact hb pins s1 σ H1 Q I1 q1
end
def Ts(K:ce)(H:Hp)(a:Addr)(xs:dw):Prop:=Rd H a (.lst xs)\/∃(o:Obj)(its:Array Value)(n:Nat),K.lookup a=some o/\o.cls=.type "list"/\o.dict=none/\o.data=.seq its n/\its.size<=sizeLine/\Vals xs its.toList
def Uu(K:ce)(H:Hp)(a:Addr)(xs:dw):Prop:=Rd H a (.tup xs)\/∃(o:Obj)(its:Array Value)(n:Nat),K.lookup a=some o/\o.cls=.type "tuple"/\o.data=.seq its n/\its.size<=sizeLine/\Vals xs its.toList
def Ra:Value->Option V
 |.none=>some .Sy|.bool b=>some<|.bl b
 |.int i _=>some (.int i)|.str x _=>some<|.str x
 |.bytes b _=>some (.Wn b)|.float b _=>some<|.Xe b
 |.ref a=>some (.ref a)|.type n=>some<|.ty n
 |_=>none
def RelV.abs(r:RelV x u):Ra u=some x:=by
 cases x with
 |Sy=>cases r;rfl
 |bl _=>cases r;rfl
 |int _=>obtain⟨t,rfl⟩:=r;rfl
 |str _=>obtain⟨t,rfl⟩:=r;rfl
 |Wn _=>obtain⟨t,rfl⟩:=r;rfl
 |Xe _=>obtain⟨t,rfl⟩:=r;rfl
 |ref _=>cases r;rfl
 |ty _=>cases r;rfl
def RelV.inj(r:RelV x u)(q:RelV y u):x=y:=bz<|r.abs.symm.trans q.abs
def Vals.inj:∀{xs ys:dw}{us:ir},Vals xs us->Vals ys us->xs=ys|_,_,_,.nil,.nil=>rfl|_,_,_,.cons r t,.cons r' t'=>by rw[r.inj r',Vals.inj t t']
def Ts.of{K:ce}{H:Hp}{a:Addr}(h:H a=some (.lst xs)):Ts K H a xs:=.inl<|.inl h
def Uu.of{K:ce}{H:Hp}{a:Addr}(h:H a=some (.tup xs)):Uu K H a xs:=.inl<|.inl h
def Inv.list(I:Inv X pins σ H s)(h:Ts X.K H a xs):∃its:ir,Vals xs its/\PlainL s.heap a its.toArray/\xs.length<=sizeLine:=by
 rcases h with h |⟨o,its,n,hk,hc,hd,hs,hz,r⟩;·obtain⟨z,its,n,r,e⟩:=h.ok I.SA;exact⟨its,r,⟨_,n,e,rfl,rfl,rfl⟩,z⟩
 ·refine⟨its.toList,r,⟨o,n,I.UP a o hk,hc,hd,by simpa using hs⟩,?_⟩;have e:=r.length;simp only[dv]at e;lia
def Inv.tuple(I:Inv X pins σ H s)(h:Uu X.K H a xs):∃its:ir,Vals xs its/\IsTup s.heap a its.toArray/\xs.length<=sizeLine:=by
 rcases h with h |⟨o,its,n,hk,hc,hs,hz,r⟩;·obtain⟨z,its,r,p⟩:=h.ok I.SA;exact⟨its,r,p,z⟩
 ·refine⟨its.toList,r,⟨o,I.UP a o hk,hc,n,by simpa using hs⟩,?_⟩;have e:=r.length;simp only[dv]at e;lia
def Inv.WU(I:Inv X pins σ H s)(h:Ts X.K H a xs)(h':Ts X.K H a ys):xs=ys:=by
 obtain⟨its,r,⟨o,n,e,_,_,d⟩,_⟩:=I.list h;obtain⟨its',r',⟨o',n',e',_,_,d'⟩,_⟩:=I.list h';rw[e]at e';cases e';rw[d]at d';injection d' with d1 _;have:its=its':=by simpa using aV Array.toList d1
 subst this;exact r.inj r'
def Inv.Vr(I:Inv X pins σ H s)(h:Uu X.K H a xs)(h':Uu X.K H a ys):xs=ys:=by
 obtain⟨its,r,⟨o,e,_,n,d⟩,_⟩:=I.tuple h;obtain⟨its',r',⟨o',e',_,n',d'⟩,_⟩:=I.tuple h';rw[e]at e';cases e';rw[d]at d';injection d' with d1 _;have:its=its':=by simpa using aV Array.toList d1
 subst this;exact r.inj r'
abbrev Cx.Vb(X:Cx)(E:qh):Cx:={X with xe:=E}
abbrev Cx.U7(X:Cx):Cx:=X.Vb λ_ _=>False
def Cx.Ok.Vb{X:Cx}(ok:X.Ok)(E:qh):(X.Vb E).Ok:=⟨ok.mod,ok.kind,ok.glob,ok.blt,ok.above,ok.inj,ok.has,ok.YQ,ok.hd,ok.frames,ok.UN,ok.Z2,ok.bs,ok.Xg,ok.Ue,ok.Ww,ok.UK,ok.X4⟩
def Cx.Ok.Uv{X:Cx}(ok:(X.Vb E).Ok):X.Ok:=⟨ok.mod,ok.kind,ok.glob,ok.blt,ok.above,ok.inj,ok.has,ok.YQ,ok.hd,ok.frames,ok.UN,ok.Z2,ok.bs,ok.Xg,ok.Ue,ok.Ww,ok.UK,ok.X4⟩
def Inv.Vb(I:Inv X pins σ H s)(E:qh):Inv (X.Vb E) pins σ H s:=⟨I.ok.Vb E,I.os,I.bare,I.base,I.loc,I.cell,I.free,I.TV,I.pin,I.SA,I.len⟩
def Inv.Uv{X:Cx}(I:Inv (X.Vb E) pins σ H s):Inv X pins σ H s:=⟨I.ok.Uv,I.os,I.bare,I.base,I.loc,I.cell,I.free,I.TV,I.pin,I.SA,I.len⟩
def SP.Uv{D:kP}{X:Cx}{f:Flow}(h:SP (X.Vb E) pins D f s'):SP X pins D f s':=by
 cases f with
 |next=>obtain⟨σ',H',I,q⟩:=h;exact⟨σ',H',I.Uv,q⟩
 |brk=>obtain⟨σ',H',I,q⟩:=h;exact⟨σ',H',I.Uv,q⟩
 |cont=>obtain⟨σ',H',I,q⟩:=h;exact⟨σ',H',I.Uv,q⟩
 |ret u=>obtain⟨v,σ',H',I,r,q⟩:=h;exact⟨v,σ',H',I.Uv,r,q⟩
def Wc.U7{st:List Stmt}{X:Cx}(h:Wc X.U7 st t):Wc X st t:=λpins s σ H D I hw=>aL (h pins s σ H D (I.Vb _) hw) (λ_ _ q=>q.Uv) λ_ _ z=>False.elim z
section
variable {st:Stmt}{bJ:List Stmt}
def On:TS:=λD σ H=>D.nx σ H
def Qs(t u:TS):TS:=λD σ H=>t {D with nx:=u D} σ H
def JH:Wc X [] On:=λ_ _ σ H _ I h=>sX ⟨σ,H,I,h⟩
def gP(h1:PS X st t)(h2:Wc X bJ u):Wc X (st::bJ) (Qs t u):=by
 intro pins s σ H D I h;refine fh (dW (h1 pins s σ H {D with nx:=u D} I h) λf s1 q=>?_);cases f with
 |next=>obtain⟨σ',H',I',q⟩:=q;exact h2 pins s1 σ' H' D I' q
 |ret v=>exact q|brk=>exact q
 |cont=>exact q
def pL(h1:PS X st t):Wc X [st] t:=by
 intro pins s σ H D I h;refine fh (dW (h1 pins s σ H D I h) λf s1 q=>?_);cases f with
 |next=>exact sX q|ret v=>exact q
 |brk=>exact q|cont=>exact q
def Inv.quiet(I:Inv X pins σ H s):interactive X.env=false:=by simp[interactive,I.ok.kind]
def Op(te:TE):TS:=λD σ H=>te σ H λ_ H1=>D.nx σ H1
def m9{pos:Pos}(he:PE X e te)(hs:swapsWith e none pos.line X.env=pure false:=by rfl):PS X (.Expr e pos) (Op te):=by intro pins s σ H D I h;exact R3 (dW (he pins s σ H _ I h) λv s1 ⟨x,H1,I1,r1,q1⟩=>⟨σ,H1,I1,q1⟩) I.quiet hs
def Qt(te:TE):TS:=λD σ H=>te σ H D.rt
def vX(he:PE X e te):PS X (.Return (some e) pos) (Qt te):=by intro pins s σ H D I h;exact wpAny_Return_some (dW (he pins s σ H _ I h) λv s1 ⟨x,H1,I1,r1,q1⟩=>⟨x,σ,H1,I1,r1,q1⟩)
def Oj:TS:=λD _ H=>D.rt .Sy H
def JI:PS X (.Return none pos) Oj:=λ_ _ σ H _ I h=>wpAny_Return_none ⟨.Sy,σ,H,I,rfl,h⟩
def Qz(c:TT)(t u:TS):TS:=λD σ H=>c σ H λb H1=>if b=true then t D σ H1 else u D σ H1
def uu{tc:TT}(hc:PT X c tc)(ha:Wc X a t)(hb:Wc X b u):PS X (.If c a b pos) (Qz tc t u):=by intro pins s σ H D I h;refine wpAny_If (dW (hc pins s σ H _ I h) λd s1 ⟨H1,I1,q1⟩=>?_);cases d with|true=>exact ha pins s1 σ H1 D I1 q1|false=>exact hb pins s1 σ H1 D I1 q1
end
abbrev TG:=V->St->Hp->(St->Hp->Prop)->Prop
abbrev NK:=dw->St->Hp->(St->Hp->Prop)->Prop
def PG(X:Cx)(target:Expr)(t:TG):Prop:=∀(pins:fR)(s:Shared)(σ:St)(H:Hp)(v:V)(u:Value)(Q:St->Hp->Prop),Inv X pins σ H s->RelV v u->t v σ H Q->dR X (assign target X.env u) (λ_ s'=>∃σ' H',Inv X pins σ' H' s'/\Q σ' H') X.xe s
def Pt(X:Cx)(ts:rH)(t:NK):Prop:=∀(pins:fR)(s:Shared)(σ:St)(H:Hp)(vs:dw)(us:ir)(Q:St->Hp->Prop),Inv X pins σ H s->Vals vs us->t vs σ H Q->dR X (assignInOrder ((assignEach ts X.env).map (·.2)) us) (λ_ s'=>∃σ' H',Inv X pins σ' H' s'/\Q σ' H') X.xe s
abbrev F9:=V->V->V->Hp->(Hp->Prop)->Prop
def KM(X:Cx)(t:F9):Prop:=∀(pins:fR)(s:Shared)(σ:St)(H:Hp)(o i v:V)(ov iv u:Value)(Q:Hp->Prop),Inv X pins σ H s->RelV o ov->RelV i iv->RelV v u->t o i v H Q->dR X (setItem ov iv u) (λ_ s'=>∃H',Inv X pins σ H' s'/\Q H') X.xe s
abbrev Pp:=V->V->Hp->VK->Prop
def P8(X:Cx)(op:Operator)(t:Pp):Prop:=∀(pins:fR)(s:Shared)(σ:St)(H:Hp)(x y:V)(v u:Value)(Q:VK),Inv X pins σ H s->RelV x v->RelV y u->t x y H Q->dR X (inplaceOp op v u) (EP X pins σ Q) X.xe s
def Lr(i:Nat):TG:=λv σ H Q=>Q (σ.set i<|some v) H
def u9{i:Nat}{X:Cx}(hN:X.N.Nodup)(hi:X.N[i]?=some x)(hx:NO X.env.scope x)(hf:X.fn x=true\/X.env.scope.names.lookup x=some .local:=by first |exact .inl rfl |exact .inr rfl |assumption):PG X (.Name x pos) (Lr i):=by intro pins s σ H v u Q I r h;exact wpAny_assign_Name<|mw I hN hi hx r (λs' I'=>⟨_,H,I',h⟩) hf
def Q1:NK:=λvs σ H Q=>vs=[]/\Q σ H
def O4(t:TG)(u:NK):NK:=λvs σ H Q=>∃v r,vs=v::r/\t v σ H λσ' H'=>u r σ' H' Q
def Ew:Pt X [] Q1:=by intro pins s σ H vs us Q I r h;obtain⟨e,h⟩:=h;subst e;cases r;exact assignInOrder_nil ⟨σ,H,I,h⟩
def v6{u:NK}(h1:PG X e t)(h2:Pt X es u)(hs:(assignEach (e::es) X.env).map (·.2)=assign e X.env::(assignEach es X.env).map (·.2):=by rfl):Pt X (e::es) (O4 t u):=by intro pins s σ H vs us Q I r h;obtain⟨v,vr,e1,h⟩:=h;subst e1;cases r with|cons r rr=>rw[hs];refine RE (dW (h1 pins s σ H _ _ _ I r h) λ_ s1 ⟨σ1,H1,I1,q1⟩=>?_);exact h2 pins s1 σ1 H1 _ _ Q I1 rr q1
def QZ(K:ce)(n:Nat)(t:NK):TG:=λv σ H Q=>∃a xs,v=.ref a/\Uu K H a xs/\xs.length=n/\t xs σ H Q
def Hh{n:Nat}{X:Cx}{t:NK}(hc:X.calm=true)(h:Pt X es t)(hn:(assignEach es X.env).length=n:=by rfl)(Vz:(assignEach es X.env).findIdx? (·.1)=none:=by rfl):PG X (.Tuple es k pos) (QZ X.K n t):=by intro pins s σ H v u Q I r hw;obtain⟨a,xs,e1,hq,hl,hw⟩:=hw;subst e1;cases r;obtain⟨its,rv,ht,hz⟩:=I.tuple hq;refine assign_Tuple_tuple (I.ok.hd hc) ht (by simp[hn,<-hl,rv.length]) Vz λh' hx=>?_;have I1:Inv X pins σ H {s with heap:=h'}:=I.kept (t':=s.toks) λb o e=>hx b o (bw<|aH e) e;exact h pins _ σ H xs _ Q I1 (by simpa using rv) hw
def Q0(to ti:TE)(t:F9):TG:=λv σ H Q=>to σ H λo H1=>ti σ H1 λi H2=>t o i v H2 λH3=>Q σ H3
def Hi{t:F9}(ho:PE X o to)(hi:PE X i ti)(hs:KM X t)(ha:∀v,assign (.Subscript o i pos) X.env v=(do
   let ov <-holding [v] (eval o X.env)
   let iv <-holding [v,ov] (eval i X.env)
   standAt pos
   holding [v,ov,iv] (setItem ov iv v)
   release [v,ov,iv] []):=by intro _;rfl):PG X (.Subscript o i pos) (Q0 to ti t):=by
 intro pins s σ H v u Q I r h
 rw[ha]
 refine ag<|gT (dW (ho pins s σ H _ I h) λov s1 ⟨x,H1,I1,r1,q1⟩=>?_)
 refine ag<|gT (dW (hi pins s1 σ H1 _ I1 q1) λiv s2 ⟨y,H2,I2,r2,q2⟩=>?_)
 refine ag<|qE<|ag<|gT (dW (hs pins s2 σ H2 x y v ov iv u _ I2 r1 r2 r q2) λ_ s3 ⟨H3,I3,q3⟩=>?_)
 exact wpAny_release ⟨σ,H3,I3,q3⟩
def Ov(te:TE)(g:TG):TS:=λD σ H=>te σ H λx H1=>g x σ H1 D.nx
def Hc{g:TG}{pos:Pos}(he:PE X e te)(hg:PG X tg g)(hs:swapsWithSole [tg] e pos.line X.env=pure false:=by rfl)(hw:swappedStores [tg] e X.env=pure none:=by rfl)(h1:(assignEach [tg] X.env).map (·.2)=[assign tg X.env]:=by rfl):PS X (.Assign [tg] e pos) (Ov te g):=by intro pins s σ H D I h;refine wpAny_Assign_stores (dW (he pins s σ H _ I h) λv s1 ⟨x,H1,I1,r1,q1⟩=>?_) hs hw;rw[h1];exact dW (hg pins s1 σ H1 x v _ I1 r1 q1) λ_ s2 q=>q
def oz{i:Nat}{X:Cx}{pos:Pos}(hN:X.N.Nodup)(hi:X.N[i]?=some x)(hx:NO X.env.scope x)(he:PE X e te)(hs:swapsWith e (some<|.Name x pos') pos.line X.env=pure false:=by rfl)(hf:X.fn x=true\/X.env.scope.names.lookup x=some .local:=by first |exact .inl rfl |exact .inr rfl |assumption):PS X (.Assign [.Name x pos'] e pos) (Ov te<|Lr i):=by intro pins s σ H D I h;refine wpAny_Assign_Name (dW (he pins s σ H _ I h) λv s1 ⟨y,H1,I1,r1,q1⟩=>?_) hs;exact mw I1 hN hi hx r1 (λs2 I2=>⟨_,H1,I2,q1⟩) hf
def Qu(i j:Nat)(ta:TA):TS:=λD σ H=>ta σ H λvs H1=>∃v w,vs=[v,w]/\D.nx ((σ.set i<|some v).set j<|some w) H1
def Mr{i j:Nat}{X:Cx}{pos:Pos}{kt k2 YF}(hc:X.calm=true)(hN:X.N.Nodup)(hi:X.N[i]?=some x)(hj:X.N[j]?=some y)(hij:i≠j)(hx:X.env.scope.names.lookup x=some .local)(hy:X.env.scope.names.lookup y=some .local)(ha:PA X [a,b] ta)(hw:swappedStores [.Tuple [.Name x px,.Name y py] kt pt] (.Tuple [a,b] k2 YF) X.env=pure (some [x,y]))(hs:swapsWithSole [.Tuple [.Name x px,.Name y py] kt pt] (.Tuple [a,b] k2 YF) pos.line X.env=pure false:=by rfl):PS X (.Assign [.Tuple [.Name x px,.Name y py] kt pt] (.Tuple [a,b] k2 YF) pos) (Qu i j ta):=by
 intro pins s σ H D I h;rw[exec_Assign_arm];refine ag<|qE ?_;rw[hs];refine ag<|aA ?_;rw[av<|by decide];refine ag<|Tuple_ (dW (ha _ pins s σ H _ I h) λus s1 ⟨vs,H1,I1,r1,q1⟩=>?_);obtain⟨v,w,e1,q1⟩:=q1;subst e1;obtain⟨u1,u2,rfl,rv,U1⟩:∃u1 u2,us=[u1,u2]/\RelV v u1/\RelV w u2:=by cases r1 with|cons p q=>cases q with|cons p' q'=>cases q';exact⟨_,_,rfl,p,p'⟩
 refine dH ?_ (by show 2<=sizeLine;decide);have I2:Inv X pins σ H1 {s1 with heap:=s1.heap.push {cls:=.type "tuple",data:=.seq [u1,u2].toArray}}:=I1.kept (t':=s1.toks) λb o e=>Heap.get?_push_of_some _ e;rw[hw];refine ag<|aA ?_;show dR X (do rule "assign.swapped-stores";let items <-unpackItems (.ref s1.heap.objs.size) 2 none;assignInOrder [λv=>bindName X.env y v,λv=>bindName X.env x v] items.reverse;pure Flow.next) _ _ _;refine ag<|wpAny_rule<|ag (unpackItems_tuple (items:=#[u1,u2]) (I.ok.hd hc) (IsTup.new s1.heap _) λh' Wi=>?_);have I3:=I2.kept (h':=h') (t':=s1.toks) λb o e=>Wi b o (bw<|aH e) e;show wpAny _ _ (assignInOrder [λv=>bindName X.env y v,λv=>bindName X.env x v] [u2,u1]>>=λ_=>pure Flow.next) _ _ _;refine ag<|RE<|wpAny_bindName<|mw I3 hN hj (.inl hy) U1 (λs2 I4=>?_)<|.inr hy;refine RE<|wpAny_bindName<|mw I4 hN hi (.inl hx) rv (λs3 I5=>assignInOrder_nil<|aA ?_)<|.inr hx;rw[List.set_comm _ _<|cV hij]at I5;exact⟨_,H1,I5,q1⟩
def QD(i:Nat)(te:TE)(ti:Pp):TS:=λD σ H=>∃x,σ[i]?=some (some x)/\te σ H λy H1=>ti x y H1 λz H2=>D.nx (σ.set i<|some z) H2
def Ms{i:Nat}{X:Cx}{ti:Pp}(hN:X.N.Nodup)(hi:X.N[i]?=some x)(hx:NO X.env.scope x)(he:PE X e te)(ho:P8 X op ti)(hf:X.fn x=true\/X.env.scope.names.lookup x=some .local:=by first |exact .inl rfl |exact .inr rfl |assumption):PS X (.AugAssign (.Name x pos') op e pos) (QD i te ti):=by
 intro pins s σ H D I h;obtain⟨v,e1,h⟩:=h;obtain⟨m,hn,hl⟩:=I.loc;have vis:Pm X.env.scope x:=by rcases hx with k |k;exact .inl k;exact .inr<|.inl k
 obtain⟨u,r,l⟩:=hl i x v hi e1 vis;refine wpAny_AugAssign_Name ?_;have go:dR X (eval e X.env) (λw s₂=>dR X (inplaceOp op u w) (λr s₃=>dR X (storeName X.env x r) (λ_=>SP X pins D .next) X.xe s₃) X.xe s₂) X.xe s:=by refine dW (he pins s σ H _ I h) λw s1 ⟨y,H1,I1,r1,q1⟩=>?_;refine dW (ho pins s1 σ H1 v y u w _ I1 r r1 q1) λz s2 ⟨zv,H2,I2,r2,q2⟩=>?_;exact mw I2 hN hi hx r2 (λs3 I3=>⟨_,H2,I3,q2⟩) hf
 rcases l with⟨hk,hm⟩ |⟨hk,c,hc,UW⟩;·exact wpAny_loadName_local I.ok.kind hk hn hm go
 ·rcases hk with hk |hk;·exact wpAny_loadName_cell I.ok.kind hk hc UW go
  ·rcases hx with k |k;·have:X.env.scope.names.lookup x=some .free:=hk;rw[k]at this;cases this
   ·have:X.env.scope.names.lookup x=some .free:=hk;rw[k]at this;cases this
def Ou(to ti te:TE)(Xs:V->V->Hp->VK->Prop)(tip:Pp)(Xr:F9):TS:=λD σ H=>to σ H λo H1=>ti σ H1 λi H2=>Xs o i H2 λx H3=>te σ H3 λy H4=>tip x y H4 λz H5=>Xr o i z H5 λH6=>D.nx σ H6
def Pu(X:Cx)(t:V->V->Hp->VK->Prop):Prop:=∀(pins:fR)(s:Shared)(σ:St)(H:Hp)(o i:V)(ov iv:Value)(Q:VK),Inv X pins σ H s->RelV o ov->RelV i iv->t o i H Q->dR X (getItem ov iv) (EP X pins σ Q) X.xe s
def JJ{Xs:V->V->Hp->VK->Prop}{tip:Pp}{Xr:F9}(ho:PE X o to)(hi:PE X i ti)(hg:Pu X Xs)(he:PE X e te)(hp:P8 X op tip)(hs:KM X Xr)(ha:∀ov iv new,augStore i ov iv new=(do holding [new,ov,iv] (setItem ov iv new);release [new,ov,iv] [];pure .next):=by intros;rfl):PS X (.AugAssign (.Subscript o i Y5) op e pos) (Ou to ti te Xs tip Xr):=by intro pins s σ H D I h;refine wpAny_AugAssign_SubscriptAny (dW (ho pins s σ H _ I h) λov s1 ⟨x1,H1,I1,r1,q1⟩=>?_) ha;refine dW (hi pins s1 σ H1 _ I1 q1) λiv s2 ⟨x2,H2,I2,r2,q2⟩=>?_;refine dW (hg pins s2 σ H2 x1 x2 ov iv _ I2 r1 r2 q2) λold s3 ⟨x3,H3,I3,r3,q3⟩=>?_;refine dW (he pins s3 σ H3 _ I3 q3) λv s4 ⟨x4,H4,I4,r4,q4⟩=>?_;refine dW (hp pins s4 σ H4 x3 x4 old v _ I4 r3 r4 q4) λnew s5 ⟨x5,H5,I5,r5,q5⟩=>?_;exact dW (hs pins s5 σ H5 x1 x2 x5 ov iv new _ I5 r1 r2 r5 q5) λ_ s6 ⟨H6,I6,q6⟩=>⟨σ,H6,I6,q6⟩
def L7(c:TT)(tb:TS):TS:=λD σ H=>∃W:Nat->St->Hp->Prop,(∃m,W m σ H)/\∀m σ H,W m σ H->c σ H λb H1=>if b=true then∃N:St->Hp->Prop,(∀σ' H',N σ' H'->∃m',m'<m/\W m' σ' H')/\tb {D with nx:=N,ct:=N,bk:=D.nx} σ H1 else D.nx σ H1
def BO{X:Cx}{tc:TT}(hp:PassesOwn (model X.prog X.w) X.A X.env X.xe)(hc:PT X c tc)(hb:Wc X body tb):PS X (.While c body [] pos) (L7 tc tb):=by
 intro pins s σ H D I h;obtain⟨W,⟨m0,w0⟩,turn⟩:=h;refine wpAny_While<|codeAny_whileLoop (λn s'=>∃σ' H',Inv X pins σ' H' s'/\W n σ' H') ?_ m0 ⟨σ,H,I,w0⟩;rintro n s1 ⟨σ1,H1,I1,w1⟩;refine gy hp (dW (hc pins s1 σ1 H1 _ I1<|turn n σ1 H1 w1) λb s2 ⟨H2,I2,q2⟩=>?_);cases b with
 |true=>
  obtain⟨N,hN,q2⟩:=q2;rw[ax rfl];refine gy hp (dW (hb pins s2 σ1 H2 _ I2 q2) λf s3 q3=>?_);cases f with
  |next=>obtain⟨σ3,H3,I3,n3⟩:=q3;obtain⟨m',hm,w3⟩:=hN σ3 H3 n3;exact⟨m',hm,σ3,H3,I3,w3⟩
  |cont=>obtain⟨σ3,H3,I3,n3⟩:=q3;obtain⟨m',hm,w3⟩:=hN σ3 H3 n3;exact⟨m',hm,σ3,H3,I3,w3⟩
  |brk=>exact q3|ret v=>exact q3
 |false=>rw[av ay];exact sX ⟨σ1,H2,I2,q2⟩
structure It where
 go:Nat->Hp->Prop
 yld:Nat->Hp->V->Hp->Prop
 stop:Nat->Hp->Prop
 VA:Prop
def NP(X:Cx):Prop:=∃(ea:Addr)(oe:Obj)(u:HO)(vs:Array Value),X.A.handled=some (.ref ea)/\X.H₀ ea=some (.TB oe u)/\oe.data=.fields vs/\vs[2]?=some .none
def rj(X:Cx)(pins:fR)(H:Hp)(b:Addr):Prop:=H b=none/\b≠X.env.locals/\b∉X.fs/\(b∈X.ex\/X.s₀.heap.objs.size<=b)/\(∀x c,X.env.cells.lookup x=some c->c≠b)/\∀p∈X.pn++pins,p.1≠b
def Inv.Wv{H':Hp}{b:Addr}(I:Inv X pins σ H s)(hb:s.heap.objs.size<=b)(hn:H' b=none):rj X pins H' b:=by
 refine⟨hn,mj<|aW I.lt hb,I.zBZ hb,.inr<|ao I.sz hb,λx c e z=>?_,λp hp z=>?_⟩;·obtain⟨v,q⟩:=I.cell x c e;exact absurd (aW q.lt<|by rw[z];exact hb)<|eT _
 ·exact absurd (aW (aH (I.pin p hp).1)<|by rw[z];exact hb)<|eT _
structure Bq(P:Program)(w:World)(K:ce)(tg:Expr)(J:It)(fp:List Addr)(it:Addr)(tn:Nat->Heap->Prop):Prop where
 mem:it∈fp
 obj:∀i h,tn i h->∀b∈fp,∃o,h.get? b=some o/\∀v,o.data≠.cell v
 keep:∀i h h',tn i h->(∀b∈fp,∀o,h.get? b=some o->h'.get? b=some o)->tn i h'
 item:∀(X:Cx),X.prog=P->X.w=w->X.K=K->(X.calm=true\/(J.VA/\NP X))->∀(i:Nat)(pins:fR)(s:Shared)(σ:St)(H:Hp)(E:qh),Inv X pins σ H s->(∀b∈fp,rj X pins H b)->tn i s.heap->J.go i H->
  wpAny (model P w) X.A (pyNext<|.ref it) (λr s1=>∃u,r=some u/\
   wpAny (model P w) X.A (letOwnedTupleGo tg (.ref it) u) (λ_ s2=>∃x H',Inv X pins σ H' s2/\RelV x u/\J.yld i H x H'/\tn (i+1) s2.heap/\∀b∈fp,H' b=none) E s1) E s
 done:∀(X:Cx),X.prog=P->X.w=w->X.K=K->(X.calm=true\/(J.VA/\NP X))->∀(i:Nat)(pins:fR)(s:Shared)(σ:St)(H:Hp)(E:qh),Inv X pins σ H s->(∀b∈fp,rj X pins H b)->tn i s.heap->J.stop i H->
  wpAny (model P w) X.A (pyNext<|.ref it) (λr s1=>r=none/\Inv X pins σ H s1) E s
 self:∀(A:Around)(i:Nat)(s:Shared)(Q:qh)(E:qh),tn i s.heap->Q (.ref it) s->wpAny (model P w) A (pyIter<|.ref it) Q E s
abbrev TI:=St->Hp->(It->Hp->Prop)->Prop
def P9(X:Cx)(pins:fR)(σ:St)(tg:Expr)(R:It->Hp->Prop)(Zr:Value)(s2:Shared):Prop:=∃(it:Addr)(fp:List Addr)(tn:Nat->Heap->Prop)(J:It)(H':Hp),Zr=.ref it/\Inv X pins σ H' s2/\Bq X.prog X.w X.K tg J fp it tn/\tn 0 s2.heap/\(∀b∈fp,rj X pins H' b)/\R J H'
def PI(X:Cx)(tg iter:Expr)(wi:TI):Prop:=∀(pins:fR)(s:Shared)(σ:St)(H:Hp)(R:It->Hp->Prop),Inv X pins σ H s->wi σ H R->dR X (eval iter X.env) (λv s1=>dR X (pyIter v) (P9 X pins σ tg R) X.xe s1) X.xe s
def EK{s:Shared}{it:Addr}{Q:Unit->Shared->Prop}(ho:s.heap.get? it=some o)(hc:o.cls=.type n)(hd:o.data=.fields vs)(hn:["enumerate","zip","dict_itemiterator","dict_reverseitemiterator","odict_iterator","itertools.zip_longest","itertools.pairwise"].contains n=false)(hQ:Q () s):wpAny M A (letOwnedTupleGo tg (.ref it) u) Q E s:=by
 unfold letOwnedTupleGo;cases tg<;>first
  |exact aA hQ|(cases u<;>first|exact aA hQ|(refine ag<|wpAny_load ho ?_;rw[hc,hd];show wpAny M A (if(["enumerate","zip","dict_itemiterator","dict_reverseitemiterator","odict_iterator","itertools.zip_longest","itertools.pairwise"].contains n&&vs[0]?==some (rawInt _))=true then _ else _) Q E s;rw[av<|by intro h;rw[hn,Bool.false_and]at h;cases h];exact aA hQ))
def Rq(K:ce)(a:Addr):It:=⟨λi H=>∃xs x,Ts K H a xs/\xs[i]?=some x,λi H x H'=>H'=H/\∀xs,Ts K H a xs->xs[i]?=some x,λi H=>∃xs,Ts K H a xs/\xs.length<=i,False⟩
def Ro(K:ce)(a:Addr):It:=⟨λi H=>∃xs x,Uu K H a xs/\xs[i]?=some x,λi H x H'=>H'=H/\∀xs,Uu K H a xs->xs[i]?=some x,λi H=>∃xs,Uu K H a xs/\xs.length<=i,False⟩
def Qc(lo:Int)(n:Nat):It:=⟨λi _=>i<n,λi H x H'=>H'=H/\x=.int (lo+i),λi _=>n<=i,True⟩
def Fi{K:ce}(a it:Addr):Bq P w K tg (Rq K a) [it] it (λi h=>h.IsListIter it a i) where
 mem:=by simp
 obj:=λi h st b hb=>by
  have e:b=it:=by simpa using hb
  subst e;obtain⟨o,e,c,d⟩:=st;exact⟨o,e,λv z=>by rw[d]at z;cases z⟩
 keep:=λi h h' st k=>st.at λo e=>k it (by simp) o e
 item:=by intro X hP hw hK hc i pins s σ H E I hf st hg;subst hP hw hK;replace hc:=hc.resolve_right λz=>z.1;obtain⟨xs,x,hq,hx⟩:=hg;obtain⟨its,rv,p,hz⟩:=I.list hq;obtain⟨u,hu,ru⟩:=rv.get hx;obtain⟨f0,f1,f2,f3,f4,f5⟩:=hf it (by simp);refine wpAny_pyNext_list_item st p.isList (x:=u) (by simpa using hu) λh' Vy sb=>?_;have I1:Inv X pins σ H {s with heap:=h'}:=I.turned (t':=s.toks) (λb o hb e=>(sb.2 b hb).trans e) f0 f1 f3 f4 f5;obtain⟨o,e,c,d⟩:=id Vy;exact⟨u,rfl,EK (s:={s with heap:=h'}) e c d (by decide) ⟨x,H,I1,ru,⟨rfl,λys hy=>by rw[I.WU hy hq];exact hx⟩,Vy,λb hb=>(hf b hb).1⟩⟩
 done:=by intro X hP hw hK hc i pins s σ H E I hf st hg;subst hP hw hK;replace hc:=hc.resolve_right λz=>z.1;obtain⟨xs,hq,hx⟩:=hg;obtain⟨its,rv,p,hz⟩:=I.list hq;obtain⟨f0,f1,f2,f3,f4,f5⟩:=hf it (by simp);have hl:=rv.length;exact wpAny_pyNext_list_end (I.ok.hd hc) st p.isList (by simp;lia) λh' eb=>⟨rfl,I.turned (t':=s.toks) (λb o hb e=>eb b o hb e) f0 f1 f3 f4 f5⟩
 self:=λ_ _ _ _ _ st h=>wpAny_pyIter_listiter st h
def C3{K:ce}(a it:Addr):Bq P w K tg (Ro K a) [it] it (λi h=>h.IsTupleIter it a i) where
 mem:=by simp
 obj:=λi h st b hb=>by
  have e:b=it:=by simpa using hb
  subst e;obtain⟨o,e,c,d⟩:=st;exact⟨o,e,λv z=>by rw[d]at z;cases z⟩
 keep:=λi h h' st k=>st.at λo e=>k it (by simp) o e
 item:=by intro X hP hw hK hc i pins s σ H E I hf st hg;subst hP hw hK;replace hc:=hc.resolve_right λz=>z.1;obtain⟨xs,x,hq,hx⟩:=hg;obtain⟨its,rv,p,hz⟩:=I.tuple hq;obtain⟨u,hu,ru⟩:=rv.get hx;obtain⟨f0,f1,f2,f3,f4,f5⟩:=hf it (by simp);refine wpAny_pyNext_tuple_item st (show s.heap.IsTuple a its.toArray from p) (x:=u) (by simpa using hu) λh' Vy sb=>?_;have I1:Inv X pins σ H {s with heap:=h'}:=I.turned (t':=s.toks) (λb o hb e=>(sb.2 b hb).trans e) f0 f1 f3 f4 f5;obtain⟨o,e,c,d⟩:=id Vy;exact⟨u,rfl,EK (s:={s with heap:=h'}) e c d (by decide) ⟨x,H,I1,ru,⟨rfl,λys hy=>by rw[I.Vr hy hq];exact hx⟩,Vy,λb hb=>(hf b hb).1⟩⟩
 done:=by intro X hP hw hK hc i pins s σ H E I hf st hg;subst hP hw hK;replace hc:=hc.resolve_right λz=>z.1;obtain⟨xs,hq,hx⟩:=hg;obtain⟨its,rv,p,hz⟩:=I.tuple hq;obtain⟨f0,f1,f2,f3,f4,f5⟩:=hf it (by simp);have hl:=rv.length;exact wpAny_pyNext_tuple_end (I.ok.hd hc) st (show s.heap.IsTuple a its.toArray from p) (by simp;lia) λh' eb=>⟨rfl,I.turned (t':=s.toks) (λb o hb e=>eb b o hb e) f0 f1 f3 f4 f5⟩
 self:=λ_ _ _ _ _ st h=>wpAny_pyIter_tupleiter st h
def xU:entryFor table "proto.unchain"=some Builtin.«proto.unchain»:=entryFor_of_tree<|by kernel_rfl
def xF{A:Around}{s:Shared}{step:Int}{Q:Option Value->Shared->Prop}(hh:A.handled=some (.ref ea))(he:s.heap.get? ea=some oe)(hd:oe.data=.fields vs)(h2:vs[2]?=some .none)(hit:IsRangeIter s.heap it x left step)(ZF:left<=0)(hQ:∀h',Heap.ExtBut it s.heap h'->Q none {s with heap:=h'}):wpAny (model prog w) A (pyNext<|.ref it) Q E s:=by
 have hT:s.TypeIs (.ref it) "range_iterator":=⟨_,hit,rfl⟩;unfold pyNext;refine ag<|IW<|wpAny_callSpecial?_slot (name:=Str.ofString "__next__") hT R6<|iw R6 hT F.entry_range_iterator_next ?_<|F.args_range_iterator_next_1 _;show wpAny _ _ (field (.ref it) 0>>=_) _ _ s;refine ag<|fu hit rfl (x:=rawInt x) rfl ?_;show wpAny _ _ (field (.ref it) 1>>=_) _ _ s;refine ag<|fu hit rfl (x:=rawInt left) rfl ?_;show wpAny _ _ (field (.ref it) 2>>=_) _ _ s;refine ag<|fu hit rfl (x:=rawInt step) rfl ?_;show wpAny _ _ (if left<=0 then _ else _) _ _ s;rw[ax ZF];refine ag<|wpAny_rule<|ag ?_;show wpAny _ _ (newExc (.type "StopIteration") []>>=_) _ _ _;refine ag ?_;simp only[newExc,newTuple];refine ag<|dH ?_ (by size_fits);refine ag (m:=firstArgMember _ _)<|gI (a:=Value.none) (by first |rfl |(simp only[firstArgMember];rfl)) ?_;refine dH ?_ (by size_fits);have S1:ea<s.heap.objs.size:=aH he;simp only[raiseNew];refine ag<|wpAny_handled ?_;rw[show A.in1.handled=some (.ref ea)from hh];dsimp only;have ne:(Value.ref ea !=Value.ref (s.heap.push {cls:=.type "tuple",data:=.seq ([]:ir).toArray}).objs.size)=true:=by rw[fv];have:ea≠s.heap.objs.size+1:=bw<|i7 S1;simp[this]
 rw[ax ne];have ZN:((s.heap.push {cls:=.type "tuple",data:=.seq ([]:ir).toArray}).push {cls:=.type "StopIteration",data:=.fields (#[.ref s.heap.objs.size,.none,.none,.none,.bool false,Value.none]++ownMembersOf (.type "StopIteration") [])}).get? ea=some oe:=Heap.get?_push_of_some _<|Heap.get?_push_of_some _ he;refine ag<|gT<|wpAny_runValue<|codeAny_builtin xU ?_;unfold Builtin.«proto.unchain»;dsimp only;refine ag<|fu ZN hd h2 ?_;rw[ax<|by decide];refine aA ?_;dsimp only;refine ag ?_;simp only[updateField];refine ag<|wpAny_load (Heap.get?_push_size _ rfl) ?_;dsimp only;rw[ax<|by rw[Array.size_append];show 2<6+_;lia];refine wpAny_update (Heap.get?_push_size _ rfl) ?_;refine wpAny_throw ?_;refine ag<|Bs (T:="StopIteration") (b:=true) ⟨_,Heap.get?_update_self _ (Heap.get?_push_size _ rfl) rfl,rfl⟩ R4 ?_;refine aA (hQ _ λb o hb q=>?_);have Yx:b<s.heap.objs.size:=aH q;rw[Heap.get?_update_other _ _<|by rw[fv];exact mj<|i7 Yx];exact Heap.get?_push_of_some _<|Heap.get?_push_of_some _ q
def C4{K:ce}(it:Addr)(lo:Int)(n:Nat):Bq P w K tg (Qc lo n) [it] it (λi h=>IsRangeIter h it (lo+(i:Nat)*1) ((n:Int)-(i:Nat)) 1) where
 mem:=by simp
 obj:=λi h st b hb=>by
  have e:b=it:=by simpa using hb
  subst e;exact⟨_,st,λv z=>by have z':Data.fields _=Data.cell v:=z;cases z'⟩
 keep:=λi h h' st k=>k it (by simp) _ st
 item:=by
  intro X hP hw hK hc i pins s σ H E I hf st hg;subst hP hw hK;obtain⟨f0,f1,f2,f3,f4,f5⟩:=hf it (by simp);refine wpAny_pyNext_range_item st (by have:i<n:=hg;lia) λh' Vy sb=>?_;have I1:Inv X pins σ H {s with heap:=h',toks:=s.toks+1}:=I.turned (λb o hb e=>(sb.2 b hb).trans e) f0 f1 f3 f4 f5;have e1:lo+(i:Nat)*1+1=lo+((i+1:Nat):Int)*1:=by lia
  have e2:(n:Int)-(i:Nat)-1=(n:Int)-((i+1:Nat):Int):=by lia
  rw[e1,e2]at Vy;refine⟨_,rfl,EK (s:={s with heap:=h',toks:=s.toks+1}) (n:="range_iterator") Vy rfl rfl (by decide) ⟨.int<|lo+i,H,I1,⟨s.toks,?_⟩,⟨rfl,rfl⟩,Vy,λb hb=>(hf b hb).1⟩⟩;rw[Int.mul_one]
 done:=by
  intro X hP hw hK hc i pins s σ H E I hf st hg;subst hP hw hK;obtain⟨f0,f1,f2,f3,f4,f5⟩:=hf it (by simp);rcases hc with hc |⟨_,ea,oe,u,vs,k1,k2,k3,k4⟩;rotate_left;·obtain⟨ho,_⟩:=(show Su X.prog X.w H s.heap ea (.TB oe u)from I.SA ea _<|I.base.TC ea oe u k2);exact xF k1 ho k3 k4 st (by have:n<=i:=hg;lia) λh' eb=>⟨rfl,I.turned (t':=s.toks) (λb o hb e=>eb b o hb e) f0 f1 f3 f4 f5⟩
  exact wpAny_pyNext_range_end (I.ok.hd hc) st (by have:n<=i:=hg;lia) λh' eb=>⟨rfl,I.turned (t':=s.toks) (λb o hb e=>eb b o hb e) f0 f1 f3 f4 f5⟩
 self:=λ_ _ _ _ _ st h=>wpAny_pyIter_rangeiter st h
def O2(K:ce)(tl:TE):TI:=λσ H R=>tl σ H λx H1=>∃a,x=.ref a/\(∃xs,Ts K H1 a xs)/\R (Rq K a) H1
def QW(K:ce)(tl:TE):TI:=λσ H R=>tl σ H λx H1=>∃a,x=.ref a/\(∃xs,Uu K H1 a xs)/\R (Ro K a) H1
def Ev(hl:PE X l tl):PI X tg l (O2 X.K tl):=by
 intro pins s σ H R I h;refine dW (hl pins s σ H _ I h) λv s1 ⟨x,H1,I1,r1,q1⟩=>?_;obtain⟨a,e,⟨xs,hq⟩,q⟩:=q1;subst e;cases r1;obtain⟨its,rv,p,hz⟩:=I1.list hq;refine NS p.isList ?_;refine⟨s1.heap.objs.size,[s1.heap.objs.size],_,_,H1,rfl,I1.kept (t':=s1.toks) λb o e=>Heap.get?_push_of_some _ e,Fi a _,⟨_,Heap.get?_push_size _ rfl,rfl,rfl⟩,λb hb=>?_,q⟩;have e:b=s1.heap.objs.size:=by simpa using hb
 subst e;exact I1.Wv (ar _)<|I1.SA.fresh<|ar _
def Mt(hl:PE X l tl):PI X tg l (QW X.K tl):=by
 intro pins s σ H R I h;refine dW (hl pins s σ H _ I h) λv s1 ⟨x,H1,I1,r1,q1⟩=>?_;obtain⟨a,e,⟨xs,hq⟩,q⟩:=q1;subst e;cases r1;obtain⟨its,rv,p,hz⟩:=I1.tuple hq;refine uV (show s1.heap.IsTuple a its.toArray from p) ?_;refine⟨s1.heap.objs.size,[s1.heap.objs.size],_,_,H1,rfl,I1.kept (t':=s1.toks) λb o e=>Heap.get?_push_of_some _ e,C3 a _,⟨_,Heap.get?_push_size _ rfl,rfl,rfl⟩,λb hb=>?_,q⟩;have e:b=s1.heap.objs.size:=by simpa using hb
 subst e;exact I1.Wv (ar _)<|I1.SA.fresh<|ar _
def G6{lo hi:Int}{tk:Nat}{R:It->Hp->Prop}(I:Inv X pins σ H s)(h1: -(2 ^ 62)<=lo)(h2:lo<2 ^ 62)(h3: -(2 ^ 62)<=hi)(h4:hi<2 ^ 62)(q:R (Qc lo (hi-lo).toNat) H):dR X (pyIter<|.ref s.heap.objs.size) (P9 X pins σ tg R) E {s with heap:=s.heap.push {cls:=.type "range",data:=.fields #[.int lo t,.int hi u,.int 1 v]},toks:=tk}:=by
 refine wpAny_pyIter_range (IsRange.new ..) (small_one h1 h2 h3 h4) ?_;have I1:Inv X pins σ H {s with heap:=s.heap.push {cls:=.type "range",data:=.fields #[.int lo t,.int hi u,.int 1 v]},toks:=tk}:=I.kept λb o e=>Heap.get?_push_of_some _ e;refine⟨(s.heap.push {cls:=.type "range",data:=.fields #[.int lo t,.int hi u,.int 1 v]}).objs.size,[(s.heap.push {cls:=.type "range",data:=.fields #[.int lo t,.int hi u,.int 1 v]}).objs.size],_,_,H,rfl,I1.kept (t':=tk) λb o e=>Heap.get?_push_of_some _ e,C4 _ lo (hi-lo).toNat,?_,λb hb=>?_,q⟩
 ·have e1:lo+((0:Nat):Int)*1=lo:=by simp
  have e2:(((hi-lo).toNat:Nat):Int)-((0:Nat):Int)=Builtin.Range.rangeSize lo hi 1:=by rw[rangeSize_one];split<;>lia
  show IsRangeIter _ _ (lo+((0:Nat):Int)*1) ((((hi-lo).toNat:Nat):Int)-((0:Nat):Int)) 1;rw[e1,e2];exact Heap.get?_push_size _ rfl
 ·have e:b=(s.heap.push {cls:=.type "range",data:=.fields #[.int lo t,.int hi u,.int 1 v]}).objs.size:=by simpa using hb
  subst e;exact I1.Wv (ar _)<|I1.SA.fresh<|ar _
def O1(ta:TA):TI:=λσ H R=>ta σ H λvs H1=>∃j:Int,vs=[.int j]/\-(2 ^ 62)<=j/\j<2 ^ 62/\R (Qc 0 j.toNat) H1
def y3(hg:Gl X "range")(hm:X.mg "range"=none)(ha:PA X [a] ta)(hs:starEach [a] X.env=[(false,eval a X.env)]:=by rfl):PI X tg (.Call (.Name "range" p) [a] [] pos) (O1 ta):=by intro pins s σ H R I h;refine Call_<|wz I hg hm boot_range<|qf (dW (ha pos pins s σ H _ I h) λus s1 ⟨vs,H1,I1,r1,q1⟩=>?_) hs rfl;obtain⟨j,e,q1,q2,q⟩:=q1;subst e;cases r1 with|cons r rr=>cases rr;obtain⟨t,rfl⟩:=r;exact call_range_1<|G6 I1 (by lia) (by lia) q1 q2<|by simpa using q
def QA(wi:TI)(g:TG)(tb:TS):TS:=λD σ H=>wi σ H λJ H1=>∃W:Nat->Nat->St->Hp->Prop,(∃m,W 0 m σ H1)/\∀i m σ H,W i m σ H->(J.stop i H/\D.nx σ H)\/(J.go i H/\∃N:St->Hp->Prop,(∀σ' H',N σ' H'->∃m',m'<m/\W (i+1) m' σ' H')/\∀x H',J.yld i H x H'->g x σ H' λσ2 H2=>tb {D with nx:=N,ct:=N,bk:=D.nx} σ2 H2)
def tI(fp:List Addr)(h:Heap):fR:=fp.filterMap λb=>(h.get? b).map λo=>(b,o)
def ji{fp:List Addr}{h:Heap}{b:Addr}(hb:b∈fp)(e:h.get? b=some o):(b,o)∈tI fp h:=List.mem_filterMap.mpr ⟨b,hb,by rw[e];rfl⟩
def Fy{p:Addr×Obj}(hp:p∈tI fp h):p.1∈fp/\h.get? p.1=some p.2:=by
 obtain⟨b,hb,e⟩:=List.mem_filterMap.mp hp;cases q:h.get? b with
 |none=>rw[q]at e;cases e
 |some o=>rw[q]at e;have e':(b,o)=p:=bz e;subst e';exact⟨hb,q⟩
def Inv.pinned{fp:List Addr}(I:Inv X pins σ H s)(hf:∀b∈fp,rj X pins H b)(ho:∀b∈fp,∃o,s.heap.get? b=some o/\∀v,o.data≠.cell v):Inv X (pins++tI fp s.heap) σ H s:=I.Wg λp hp=>(List.mem_append.mp hp).elim (λz=>I.pin p<|aB _ z) λz=>by obtain⟨hb,e⟩:=Fy z;obtain⟨f0,f1,f2,_⟩:=hf p.1 hb;obtain⟨o,e',d⟩:=ho p.1 hb;rw[e]at e';cases e';exact⟨e,f0,f1,f2,d⟩
def Inv.T5{pins pl:fR}(I:Inv X (pins++pl) σ H s):Inv X pins σ H s:=I.Wg λp hp=>I.pin p<|aB _<|eY _ hp
def Db{g:TG}{X:Cx}(hp:PassesOwn (model X.prog X.w) X.A X.env X.xe)(hc:X.calm=true)(hi:PI X tg iter wi)(hg:PG X tg g)(hb:Wc X body tb)(hs:∀x,foldedSetIterable iter X.env x=pure x:=by intro _;rfl):PS X (.For tg iter body [] pos) (QA wi g tb):=by
 intro pins s σ H D I h;refine wpAny_For (dW (hi pins s σ H _ I h) λv s1 h1=>dW h1 λZr s2 h2=>?_) hs;obtain⟨it,fp,tn,J,H2,e,I2,T,st2,f2,W,⟨m0,w0⟩,turn⟩:=h2;subst e;have stat:∀{H':Hp},(∀b∈fp,H' b=none)->∀b∈fp,rj X pins H' b:=λhn b hb=>⟨hn b hb,(f2 b hb).2⟩;refine codeAny_forLoop_any (λn s'=>∃i σ' H',Inv X pins σ' H' s'/\tn i s'.heap/\(∀b∈fp,H' b=none)/\W i n σ' H') ?_ m0 ⟨0,σ,H2,I2,st2,λb hb=>(f2 b hb).1,w0⟩;rintro n s3 ⟨i,σ3,H3,I3,st3,fr3,w3⟩;rcases turn i n σ3 H3 w3 with⟨stop,qn⟩ |⟨go,N,hN,step⟩;·refine gy hp (dW (T.done X rfl rfl rfl (.inl hc) i pins s3 σ3 H3 X.xe I3 (stat fr3) st3 stop) λr s4 ⟨hr,I4⟩=>?_);subst hr;exact sX ⟨σ3,H3,I4,qn⟩
 ·refine gy hp (dW (T.item X rfl rfl rfl (.inl hc) i pins s3 σ3 H3 X.xe I3 (stat fr3) st3 go) λr s4 ⟨u,hr,h4⟩=>?_);subst hr;refine gy hp (dW h4 λ_ s5 ⟨x,H5,I5,r5,y5,WN,ZX⟩=>?_);have I5':=I5.pinned (stat ZX)<|T.obj _ _ WN;refine gy hp (dW (hg _ s5 σ3 H5 x u _ I5' r5<|step x H5 y5) λ_ s6 ⟨σ6,H6,I6,q6⟩=>?_);refine gy hp (dW (hb _ s6 σ6 H6 _ I6 q6) λf s7 q7=>?_);have again:∀{σ7:St}{H7:Hp},Inv X (pins++tI fp s5.heap) σ7 H7 s7->N σ7 H7->∃m,m<n/\∃i σ' H',Inv X pins σ' H' s7/\tn i s7.heap/\(∀b∈fp,H' b=none)/\W i m σ' H':=λ{σ7 H7}I7 n7=>by obtain⟨m',hm,w7⟩:=hN σ7 H7 n7;refine⟨m',hm,i+1,σ7,H7,I7.T5,T.keep _ _ _ WN λb hb o e=>(I7.pin (b,o)<|aB _<|aB _<|ji hb e).1,λb hb=>?_,w7⟩;obtain⟨o,e,d⟩:=T.obj _ _ WN b hb;exact(I7.pin (b,o)<|aB _<|aB _<|ji hb e).2.1
  cases f with
  |next=>obtain⟨σ7,H7,I7,n7⟩:=q7;exact again I7 n7
  |cont=>obtain⟨σ7,H7,I7,n7⟩:=q7;exact again I7 n7
  |brk=>obtain⟨σ7,H7,I7,q7⟩:=q7;exact⟨σ7,H7,I7.T5,q7⟩
  |ret v=>obtain⟨x7,σ7,H7,I7,r7,q7⟩:=q7;exact⟨x7,σ7,H7,I7.T5,r7,q7⟩
abbrev R2:=V->V->Hp->VK->Prop
def mK(X:Cx)(f:Value->Value->Sem Value)(r:R2):Prop:=∀(pins:fR)(s:Shared)(σ:St)(H:Hp)(x y:V)(v u:Value)(Q:VK),Inv X pins σ H s->RelV x v->RelV y u->r x y H Q->dR X (f v u) (EP X pins σ Q) X.xe s
def Rb(X:Cx)(f:Value->Sem Value)(r:V->Hp->VK->Prop):Prop:=∀(pins:fR)(s:Shared)(σ:St)(H:Hp)(x:V)(v:Value)(Q:VK),Inv X pins σ H s->RelV x v->r x H Q->dR X (f v) (EP X pins σ Q) X.xe s
def gS(X:Cx)(f:Value)(r:dw->Hp->VK->Prop):Prop:=∀(pins:fR)(s:Shared)(σ:St)(H:Hp)(xs:dw)(us:ir)(Q:VK),Inv X pins σ H s->Vals xs us->r xs H Q->dR X (call f us) (EP X pins σ Q) X.xe s
def Rc(X:Cx)(r:V->Hp->(Bool->Hp->Prop)->Prop):Prop:=∀(pins:fR)(s:Shared)(σ:St)(H:Hp)(x:V)(v:Value)(Q:Bool->Hp->Prop),Inv X pins σ H s->RelV x v->r x H Q->dR X (truthy v) (TP X pins σ Q) X.xe s
def PZ(r:R2)(ta tb:TE):TE:=λσ H Q=>ta σ H λx H1=>tb σ H1 λy H2=>r x y H2 Q
def RM(r:V->Hp->VK->Prop)(ta:TE):TE:=λσ H Q=>ta σ H λx H1=>r x H1 Q
def rI(C:Int->Int->Prop)(g:Int->Int->V):R2:=λx y H Q=>∃i j,x=.int i/\y=.int j/\C i j/\Q (g i j) H
def IU(g:Int->Int->V):R2:=λx y H Q=>∃i j,x=.int i/\y=.int j/\Q (g i j) H
def rU(g:Int->V):V->Hp->VK->Prop:=λx H Q=>∃i,x=.int i/\Q (g i) H
def NE(ha:PE X a ta)(hb:PE X b tb){R:V->V->Hp->Prop}(I:Inv X pins σ H s)(h:ta σ H λx H1=>tb σ H1 λy H2=>R x y H2){f:Value->Value->Sem Value}(hf:∀v u s2 x y H2,Inv X pins σ H2 s2->RelV x v->RelV y u->R x y H2->dR X (f v u) Q X.xe s2):dR X (eval a X.env) (λv s₁=>dR X (eval b X.env) (λu s₂=>dR X (f v u) Q X.xe s₂) X.xe s₁) X.xe s:=by refine dW (ha pins s σ H _ I h) λv s1 ⟨x,H1,I1,r1,q1⟩=>?_;refine dW (hb pins s1 σ H1 _ I1 q1) λu s2 ⟨y,H2,I2,r2,q2⟩=>?_;exact hf v u s2 x y H2 I2 r1 r2 q2
def qw{r:R2}(ho:mK X (binaryOp op) r)(ha:PE X a ta)(hb:PE X b tb):PE X (.BinOp a op b pos) (PZ r ta tb):=by intro pins s σ H Q I h;exact wpAny_BinOp (NE ha hb I h λv u s2 x y H2 I2 rx ry q=>ho pins s2 σ H2 x y v u Q I2 rx ry q)
def OQ{op:UnaryOp}{r:V->Hp->VK->Prop}(ho:Rb X (unaryOp op) r)(ha:PE X a ta):PE X (.UnaryOp op a pos) (RM r ta):=by intro pins s σ H Q I h;exact UnaryOp_ (dW (ha pins s σ H _ I h) λv s1 ⟨x,H1,I1,r1,q1⟩=>ho pins s1 σ H1 x v Q I1 r1 q1)
def OU{f:Value->Value->Sem Value}{C:Int->Int->Prop}{g:Int->Int->Int}(rule:∀(i j:Int)(t u:Tok)(s:Shared)(Q:qh)(E:qh),C i j->Q (.int (g i j) s.toks) {s with toks:=s.toks+1}->dR X (f (.int i t)<|.int j u) Q E s):mK X f (rI C λi j=>.int<|g i j):=by intro pins s σ H x y v u Q I rx ry h;obtain⟨i,j,rfl,rfl,hc,q⟩:=h;obtain⟨t,rfl⟩:=rx;obtain⟨t',rfl⟩:=ry;exact rule i j t t' s _ _ hc ⟨.int<|g i j,H,I.tok _,⟨_,rfl⟩,q⟩
def ML{f:Value->Value->Sem Value}{g:Int->Int->Int}(rule:∀(i j:Int)(t u:Tok)(s:Shared)(Q:qh)(E:qh),Q (.int (g i j) s.toks) {s with toks:=s.toks+1}->dR X (f (.int i t)<|.int j u) Q E s):mK X f (IU λi j=>.int<|g i j):=by intro pins s σ H x y v u Q I rx ry h;obtain⟨i,j,rfl,rfl,q⟩:=h;obtain⟨t,rfl⟩:=rx;obtain⟨t',rfl⟩:=ry;exact rule i j t t' s _ _ ⟨.int<|g i j,H,I.tok _,⟨_,rfl⟩,q⟩
def MM{f:Value->Value->Sem Value}{g:Int->Int->Bool}(rule:∀(i j:Int)(t u:Tok)(s:Shared)(Q:qh)(E:qh),Q (.bool<|g i j) s->dR X (f (.int i t)<|.int j u) Q E s):mK X f (IU λi j=>.bl<|g i j):=by intro pins s σ H x y v u Q I rx ry h;obtain⟨i,j,rfl,rfl,q⟩:=h;obtain⟨t,rfl⟩:=rx;obtain⟨t',rfl⟩:=ry;exact rule i j t t' s _ _ ⟨.bl<|g i j,H,I,rfl,q⟩
def PB(i j:Int):Prop:=0<=j/\j<=1000000/\i.natAbs<2 ^ 64
def MK:mK X (binaryOp .Add) (IU λi j=>.int<|i+j):=ML λ_ _ _ _ _ _ _ q=>add_int q
def ME:mK X (binaryOp .Sub) (IU λi j=>.int<|i-j):=ML λ_ _ _ _ _ _ _ q=>sub_int q
def Hr:mK X (binaryOp .Mod) (rI (λ_ j=>0<j) λi j=>.int<|i%j):=OU λi j _ _ _ _ _ hc q=>by have h1:(0:Int)<j:=hc;exact mod_int' (by lia)<|by rw[Int.fmod_eq_emod_of_nonneg i<|by lia];exact q
def MG:mK X (binaryOp .Pow) (rI PB λi j=>.int<|i ^ j.toNat):=OU λ_ _ _ _ _ _ _ hc q=>pow_int_small hc.1 hc.2.1 hc.2.2 q
def MJ:mK X (binaryOp .BitAnd) (IU λi j=>.int<|Builtin.bitAnd i j):=ML λ_ _ _ _ _ _ _ q=>and_int q
def RK{f:Value->Sem Value}{g:Int->Int}(rule:∀(i:Int)(t:Tok)(s:Shared)(Q:qh)(E:qh),Q (.int (g i) s.toks) {s with toks:=s.toks+1}->dR X (f<|.int i t) Q E s):Rb X f (rU λi=>.int<|g i):=by intro pins s σ H x v Q I rx h;obtain⟨i,rfl,q⟩:=h;obtain⟨t,rfl⟩:=rx;exact rule i t s _ _ ⟨.int<|g i,H,I.tok _,⟨_,rfl⟩,q⟩
def L3:Rb X (unaryOp .USub) (rU λi=>.int (-i)):=RK λ_ _ _ _ _ q=>neg_int q
def OE:V->V->Bool
 |.Sy,.Sy=>true |.Sy,.int _=>true |.int _,.Sy=>true |.Sy,.bl _=>true |.bl _,.Sy=>true |.Sy,.str _=>true |.str _,.Sy=>true
 |.int _,.int _=>true |.bl _,.bl _=>true |.str _,.str _=>true |.Wn _,.Wn _=>true
 |.int _,.str _=>true |.str _,.int _=>true |.bl _,.str _=>true |.str _,.bl _=>true
 |_,_=>false
def RU:R2:=λx y H Q=>OE x y=true/\Q (.bl<|decide<|x=y) H
def RT:R2:=λx y H Q=>OE x y=true/\Q (.bl (!decide (x=y))) H
def vk{i:Int}:decide (V.int i=V.int j)=(i==j):=by rw[xC];simp
def Io{i:Bool}:decide (V.bl i=V.bl j)=(i==j):=by rw[xC];simp
def E3{i:Str}:decide (V.str i=V.str j)=(i==j):=by rw[xC];simp
def E4{i j:Array UInt8}:decide (V.Wn i=V.Wn j)=(i.toList==j.toList):=by rw[xC];cases i;cases j;simp
def cL{Q:VK}{k':Bool}(I:Inv X pins σ H s)(q:Q (.bl k) H)(e:k=k'):EP X pins σ Q (.bool k') s:=by subst e;exact⟨.bl k,H,I,rfl,q⟩
def Lg:mK X (compareOp .Eq) RU:=by
 intro pins s σ H x y v u Q I rx ry h;obtain⟨hs,q⟩:=h;cases x with
 |Sy=>
  cases rx;cases y with
  |Sy=>cases ry;exact PySem.EqNone.eq_none_none<|cL I q<|by simp
  |bl j=>cases ry;exact PySem.EqNone.eq_none_bool<|cL I q<|by simp
  |int j=>obtain⟨t',rfl⟩:=ry;exact PySem.EqNone.eq_none_int<|cL I q<|by simp
  |str j=>obtain⟨t',rfl⟩:=ry;exact PySem.EqNone.eq_none_str<|cL I q<|by simp
  |_=>exact absurd (show false=true from hs) ay
 |bl i=>
  cases rx;cases y with
  |Sy=>cases ry;exact PySem.EqNone.eq_bool_none<|cL I q<|by simp
  |bl j=>cases ry;exact eq_bool<|cL I q Io
  |str j=>obtain⟨t',rfl⟩:=ry;exact PySem.EqMixed.eq_bool_str<|cL I q<|by simp
  |_=>exact absurd (show false=true from hs) ay
 |int i=>
  obtain⟨t,rfl⟩:=rx;cases y with
  |Sy=>cases ry;exact PySem.EqNone.eq_int_none<|cL I q<|by simp
  |int j=>obtain⟨t',rfl⟩:=ry;exact eq_int<|cL I q vk
  |str j=>obtain⟨t',rfl⟩:=ry;exact PySem.EqMixed.eq_int_str<|cL I q<|by simp
  |_=>exact absurd (show false=true from hs) ay
 |str i=>
  obtain⟨t,rfl⟩:=rx;cases y with
  |Sy=>cases ry;exact PySem.EqNone.eq_str_none<|cL I q<|by simp
  |bl j=>cases ry;exact PySem.EqMixed.eq_str_bool<|cL I q<|by simp
  |int j=>obtain⟨t',rfl⟩:=ry;exact PySem.EqMixed.eq_str_int<|cL I q<|by simp
  |str j=>obtain⟨t',rfl⟩:=ry;exact eq_str<|cL I q E3
  |_=>exact absurd (show false=true from hs) ay
 |Wn i=>
  obtain⟨t,rfl⟩:=rx;cases y with
  |Wn j=>obtain⟨t',rfl⟩:=ry;exact PySem.W.eq_bytes<|cL I q E4
  |_=>exact absurd (show false=true from hs) ay
 |_=>cases y<;>exact absurd (show false=true from hs) ay
def OS:mK X (compareOp .NotEq) RT:=by
 intro pins s σ H x y v u Q I rx ry h;obtain⟨hs,q⟩:=h;cases x with
 |Sy=>
  cases rx;cases y with
  |Sy=>cases ry;exact PySem.EqNone.ne_none_none<|cL I q<|by simp
  |bl j=>cases ry;exact PySem.EqNone.ne_none_bool<|cL I q<|by simp
  |int j=>obtain⟨t',rfl⟩:=ry;exact PySem.EqNone.ne_none_int<|cL I q<|by simp
  |str j=>obtain⟨t',rfl⟩:=ry;exact PySem.EqNone.ne_none_str<|cL I q<|by simp
  |_=>exact absurd (show false=true from hs) ay
 |bl i=>
  cases rx;cases y with
  |Sy=>cases ry;exact PySem.EqNone.ne_bool_none<|cL I q<|by simp
  |bl j=>cases ry;exact ne_bool<|cL I q<|aV not Io
  |str j=>obtain⟨t',rfl⟩:=ry;exact PySem.EqMixed.ne_bool_str<|cL I q<|by simp
  |_=>exact absurd (show false=true from hs) ay
 |int i=>
  obtain⟨t,rfl⟩:=rx;cases y with
  |Sy=>cases ry;exact PySem.EqNone.ne_int_none<|cL I q<|by simp
  |int j=>obtain⟨t',rfl⟩:=ry;exact ne_int<|cL I q<|aV not vk
  |str j=>obtain⟨t',rfl⟩:=ry;exact PySem.EqMixed.ne_int_str<|cL I q<|by simp
  |_=>exact absurd (show false=true from hs) ay
 |str i=>
  obtain⟨t,rfl⟩:=rx;cases y with
  |Sy=>cases ry;exact PySem.EqNone.ne_str_none<|cL I q<|by simp
  |bl j=>cases ry;exact PySem.EqMixed.ne_str_bool<|cL I q<|by simp
  |int j=>obtain⟨t',rfl⟩:=ry;exact PySem.EqMixed.ne_str_int<|cL I q<|by simp
  |str j=>obtain⟨t',rfl⟩:=ry;exact ne_str<|cL I q<|aV not E3
  |_=>exact absurd (show false=true from hs) ay
 |Wn i=>
  obtain⟨t,rfl⟩:=rx;cases y with
  |Wn j=>obtain⟨t',rfl⟩:=ry;exact PySem.W.ne_bytes<|cL I q<|aV not E4
  |_=>exact absurd (show false=true from hs) ay
 |_=>cases y<;>exact absurd (show false=true from hs) ay
def Lf:mK X (compareOp .Lt) (IU λi j=>.bl<|decide<|i<j):=MM λ_ _ _ _ _ _ _ q=>lt_int q
def Hs:mK X (compareOp .Gt) (IU λi j=>.bl<|decide<|j<i):=MM λ_ _ _ _ _ _ _ q=>gt_int q
def OT:mK X (compareOp .GtE) (IU λi j=>.bl<|decide<|j<=i):=MM λ_ _ _ _ _ _ _ q=>ge_int q
def y6:mK X (compareOp .In) (λx y H Q=>∃i j,x=.str i/\y=.str j/\Q (.bl (!(Builtin.Str.occurrences j i 0 j.length 1).isEmpty)) H):=by intro pins s σ H x y v u Q I rx ry h;obtain⟨i,j,rfl,rfl,q⟩:=h;obtain⟨t,rfl⟩:=rx;obtain⟨t',rfl⟩:=ry;exact in_str<|cL I q rfl
def MH:mK X (compareOp .Is) (λx y H Q=>y=.Sy/\Q (.bl<|decide<|x=.Sy) H):=by
 intro pins s σ H x y v u Q I rx ry h;obtain⟨rfl,q⟩:=h;cases ry;refine is_none_gen<|cL I q ?_;cases x<;>first
  |(cases rx;rfl)|(obtain⟨t,rfl⟩:=rx;rfl)
def JS:mK X (compareOp .IsNot) (λx y H Q=>y=.Sy/\Q (.bl (!decide (x=.Sy))) H):=by
 intro pins s σ H x y v u Q I rx ry h;obtain⟨rfl,q⟩:=h;cases ry;refine isnot_none_gen<|cL I q ?_;cases x<;>first
  |(cases rx;rfl)|(obtain⟨t,rfl⟩:=rx;rfl)
def QS(b:Expr){op:CmpOp}(h:op≠.In:=by decide)(h2:op≠.NotIn:=by decide):behindInMarks op b=false:=by
 have e1:(op==CmpOp.In)=false:=by cases op<;>first |rfl |exact absurd rfl h
 have e2:(op==CmpOp.NotIn)=false:=by cases op<;>first |rfl |exact absurd rfl h2
 cases b<;>simp[behindInMarks,e1,e2]
def pN{op:CmpOp}{r:R2}(ho:mK X (compareOp op) r)(ha:PE X a ta)(hb:PE X b tb)(hm:behindInMarks op b=false):PE X (.Compare a [op] [b] pos) (PZ r ta tb):=by intro pins s σ H Q I h;exact wpAny_Compare1 (NE ha hb I h λv u s2 x y H2 I2 rx ry q=>ho pins s2 σ H2 x y v u Q I2 rx ry q) hm
def Oi(t:TE):TT:=λσ H Q=>t σ H λx H'=>∃k,x=.bl k/\Q k H'
def fY{op:CmpOp}{r:R2}(ho:mK X (compareOp op) r)(ha:PE X a ta)(hb:PE X b tb)(hm:behindInMarks op b=false):PT X (.Compare a [op] [b] pos) (Oi<|PZ r ta tb):=by intro pins s σ H Q I h;refine wpAny_isTrue_Compare1 (dW (ha pins s σ H _ I h) λv s1 ⟨x,H1,I1,r1,q1⟩=>dW (hb pins s1 σ H1 _ I1 q1) λu s2 ⟨y,H2,I2,r2,q2⟩=>dW (ho pins s2 σ H2 x y v u _ I2 r1 r2 q2) λc s3 ⟨z,H3,I3,r3,k,e,q3⟩=>?_) hm;subst e;cases r3;exact eF ⟨H3,I3,q3⟩
def Po(K:ce)(x:V)(H:Hp)(k:Bool):Prop:=match x with
 |.Sy=>k=false|.bl b=>k=b
 |.int i=>k=(i !=0)|.str y=>y.length<=sizeLine/\k=((y.length:Int) !=0)
 |.Wn y=>y.size<=sizeLine/\k=((y.size:Int) !=0)|.ref p=>(∃xs,Ts K H p xs/\k= !xs.isEmpty)\/(∃xs,Uu K H p xs/\k= !xs.isEmpty)\/∃kvs,H p=some (.dK kvs)/\k= !kvs.isEmpty
 |_=>False
def Du{κ:Type}{kvs:List (κ×V)}{vs:List (κ×Value)}(r:KV kvs vs):(!vs.isEmpty)= !kvs.isEmpty:=by cases r<;>rfl
def wD(r:Vals xs its):(!its.toArray.isEmpty)= !xs.isEmpty:=by cases r<;>simp
def oH:(sizeLine:Nat)<2 ^ 63:=by rw[xx];decide
def L6:Rc X (λx H Q=>∃k,Po X.K x H k/\Q k H):=by
 intro pins s σ H x v Q I rx h;obtain⟨k,e,q⟩:=h;have hl:=oH;have hs:sizeLine=16777216:=xx;cases x with
 |Sy=>cases rx;have e':k=false:=e;subst e';exact truthy_none ⟨H,I,q⟩
 |bl b=>cases rx;have e':k=b:=e;subst e';exact eF ⟨H,I,q⟩
 |int i=>obtain⟨t,rfl⟩:=rx;have e':k=(i !=0):=e;subst e';exact PySem.P.truthy_int ⟨H,I,q⟩
 |str y=>obtain⟨t,rfl⟩:=rx;obtain⟨hy,e'⟩:y.length<=sizeLine/\k=((y.length:Int) !=0):=e;subst e';exact PySem.P.truthy_str (by lia) ⟨H,I.tok _,q⟩
 |Wn y=>obtain⟨t,rfl⟩:=rx;obtain⟨hy,e'⟩:y.size<=sizeLine/\k=((y.size:Int) !=0):=e;subst e';exact PySem.W.truthy_bytes (by lia) ⟨H,I.tok _,q⟩
 |ref p=>
  cases rx;have e':(∃xs,Ts X.K H p xs/\k= !xs.isEmpty)\/(∃xs,Uu X.K H p xs/\k= !xs.isEmpty)\/∃kvs,H p=some (.dK kvs)/\k= !kvs.isEmpty:=e;rcases e' with⟨xs,hx,e'⟩ |⟨xs,hx,e'⟩ |⟨kvs,hx,e'⟩;·subst e';obtain⟨its,r,pl,hz⟩:=I.list hx;have hlen:=r.length;exact wpAny_truthy_list pl.isList (by simp only[aE];lia) ⟨H,I.tok _,by rw[wD r];exact q⟩
  ·subst e';obtain⟨its,r,pl,hz⟩:=I.tuple hx;have hlen:=r.length;exact truthy_tuple pl (by simp only[aE];lia) ⟨H,I.tok _,by rw[wD r];exact q⟩
  ·subst e';obtain⟨hz,hS,vs,r,m⟩:kvs.length<=sizeLine/\(p==sysModules)=false/\∃vs,KV kvs vs/\s.heap.DictOf (sv X.prog X.w) p vs:=I.SA p _ hx;have hlen:kvs.length=vs.length:=Paired.length r;exact wpAny_truthy_dict hS m (by lia) ⟨H,I.tok _,by rw[Du r];exact q⟩
 |_=>exact(show False from e).elim
def Hb(ha:PE X a ta)(he:∀whole,isTrue a X.env whole=(do let v <-whole;standAt a.pos;holding [v] (truthy v))):PT X a (λσ H Q=>ta σ H λx H'=>∃k,Po X.K x H' k/\Q k H'):=by intro pins s σ H Q I h;exact isTrue_plain (dW (ha pins s σ H _ I h) λv s1 ⟨x,H1,I1,r1,q1⟩=>L6 pins s1 σ H1 x v Q I1 r1 q1)<|he _
def qK:mK X (binaryOp .Add) (λx y H Q=>∃i j,x=.str i/\y=.str j/\i.length+j.length<=sizeLine/\Q (.str<|i++j) H):=by intro pins s σ H x y v u Q I rx ry h;obtain⟨i,j,rfl,rfl,hz,q⟩:=h;obtain⟨t,rfl⟩:=rx;obtain⟨t',rfl⟩:=ry;exact add_str (λt' tk=>⟨.str<|i++j,H,I.tok _,⟨_,rfl⟩,q⟩) hz
def kT(r:Vals [x] us):∃u,us=[u]/\RelV x u:=by cases r with|cons r1 r2=>cases r2;exact⟨_,rfl,r1⟩
def yn(r:Vals [x,y] us):∃u w',us=[u,w']/\RelV x u/\RelV y w':=by cases r with|cons r1 r2=>cases r2 with|cons r3 r4=>cases r4;exact⟨_,_,rfl,r1,r3⟩
def Iv:gS X (.builtin "abs") (λxs H Q=>∃i,xs=[.int i]/\Q (.int (if i<0 then-i else i)) H):=by intro pins s σ H xs us Q I r h;obtain⟨i,rfl,q⟩:=h;obtain⟨u,rfl,t,rfl⟩:=kT r;exact call_abs_int λu tk=>⟨.int (if i<0 then-i else i),H,I.tok _,⟨_,rfl⟩,q⟩
def FS{X:Cx}(hc:X.calm=true):gS X (.builtin "max") (λxs H Q=>∃i j,xs=[.int i,.int j]/\Q (.int (if j>i then j else i)) H):=by
 intro pins s σ H xs us Q I r h;obtain⟨i,j,rfl,q⟩:=h;obtain⟨u,w',rfl,⟨t,rfl⟩,⟨t',rfl⟩⟩:=yn r;refine max_two_ints (I.ok.hd hc) λh' tk k=>⟨_,H,I.kept k,?_,q⟩;by_cases hj:j>i;·rw[ax hj,ax hj];exact⟨_,rfl⟩
 ·rw[av hj,av hj];exact⟨_,rfl⟩
def FR{X:Cx}(hc:X.calm=true):gS X (.builtin "min") (λxs H Q=>∃i j,xs=[.int i,.int j]/\Q (.int (if j<i then j else i)) H):=by
 intro pins s σ H xs us Q I r h;obtain⟨i,j,rfl,q⟩:=h;obtain⟨u,w',rfl,⟨t,rfl⟩,⟨t',rfl⟩⟩:=yn r;refine min_two_ints (I.ok.hd hc) λh' tk k=>⟨_,H,I.kept k,?_,q⟩;by_cases hj:j<i;·rw[ax hj,ax hj];exact⟨_,rfl⟩
 ·rw[av hj,av hj];exact⟨_,rfl⟩
def FT:gS X (.type "int") (λxs H Q=>(∃i,xs=[.int i]/\Q (.int i) H)\/∃k,xs=[.bl k]/\Q (.int (if k then 1 else 0)) H):=by
 intro pins s σ H xs us Q I r h;rcases h with⟨i,rfl,q⟩ |⟨k,rfl,q⟩;·obtain⟨u,rfl,t,rfl⟩:=kT r;exact call_int_int ⟨.int i,H,I,⟨_,rfl⟩,q⟩
 ·obtain⟨u,rfl,r1⟩:=kT r;cases r1;exact call_int_bool ⟨.int (if k then 1 else 0),H,I.tok _,⟨_,rfl⟩,q⟩
def AU:gS X (.type "str") (λxs H Q=>∃i,xs=[.int i]/\i.natAbs.log2<1920/\Q (.str<|toString i) H):=by intro pins s σ H xs us Q I r h;obtain⟨i,rfl,hz,q⟩:=h;obtain⟨u,rfl,t,rfl⟩:=kT r;exact PySem.P.str_of_int hz ⟨.str _,H,I.tok _,⟨_,rfl⟩,q⟩
structure Wz(h:Heap)(x dx C:Addr)(mA:rG):Prop where
 obj:h.get? x=some (PySem.W.instObj C dx)
 ns:h.Ns1 dx mA
 ne:dx≠x
def FB{h:Heap}(n:h.Ns1 dx mA):∃od,h.get? dx=some od/\∀name,PySem.W.lookIn name od=some (mA name):=by
 obtain⟨o,es,ep,ho,hd,hk,_,hm⟩:=n;refine⟨o,ho,λname=>?_⟩;have e:=hm name;unfold nsFind findBy at e;rw[<-Array.find?_toList]at e;unfold PySem.W.lookIn;rw[hd];dsimp only;split;·rename_i y q;rw[q]at e;exact aV some e
 ·rename_i q;rw[q]at e;have a:es.toList.any (·.refKey)=false:=by rw[List.any_eq_false];intro y hy;obtain⟨z,t,zCU⟩:=hk y<|Array.mem_toList_iff.mp hy;simp[DictEntry.refKey,zCU]
  have a':¬es.toList.any (·.refKey)=true:=by rw[a];exact ay
  rw[av a'];exact aV some e
def Wz.look(I:Wz h x dx C mA):∃od,PySem.W.InstAt h x (PySem.W.instObj C dx) C (some od)/\∀name,PySem.W.lookIn name od=some (mA name):=
 let⟨od,ho,hl⟩:=FB I.ns
 ⟨od,⟨I.obj,rfl,rfl,ho⟩,hl⟩
def Ke{Q:qh}{s:Shared}{name:Str}(X:K.In s.heap)(I:Wz s.heap x dx C mA)(hg:PySem.W.plainGet K C name=true)(hh:PySem.W.hasDictIn K C=true)(ha:PySem.W.findIn K (.ref C) name=some none)(hv:mA name=some v)(hv':PySem.W.handedIn v=true)(h:Q v {s with toks:=s.toks+1}):wpAny (model prog w) A (getAttr (.ref x) name expr) Q E s:=by obtain⟨od,J,hl⟩:=I.look;exact PySem.W.get_value X J (PySem.W.plainGet_of hg).1 (PySem.W.findObj_own hh ha rfl<|by rw[hl,hv]) hv' h
def Jr{s:Shared}{name:Str}{Q:Unit->Shared->Prop}(X:K.In s.heap)(I:Wz s.heap x dx C mA)(hs:PySem.W.findIn K (.ref C) "__setattr__"=some (some<|.builtin "object.__setattr__"))(hp:PySem.W.plainOver K C=true)(ht:PySem.W.takerIn K C name=some none)(hh:PySem.W.hasDictIn K C=true)(hw:PySem.Within mA ns)(hsz:ns.length<=sizeLine)(h:∀h',Wz h' x dx C (λy=>if y=name then some v else mA y)->Heap.SameBut dx s.heap h'->Q () {s with heap:=h',toks:=s.toks+2}):wpAny (model prog w) A (setAttr (.ref x) name v) Q E s:=by obtain⟨od,J,hl⟩:=I.look;refine PySem.W.set_plain X J hs (PySem.W.osa_open (s:={s with toks:=s.toks+1}) (r:=none) X J hp ht λb=>?_);obtain⟨cd,hc,VR⟩:=PySem.W.any_some hh;have hx:s.heap.get? x=some ⟨.ref C,some dx,.plain,#[]⟩:=I.obj;refine ag<|aA<|ag<|ag<|wpAny_loadPart hx<|ag<|PySem.W.Looks.here (s:={s with toks:=s.toks+1}) (PySem.W.looks_clsIn X hc) ?_;rw[VR];refine aA (a:=some dx)<|ag<|aA<|ag ?_;refine wpAny_nsSet1 (s:={s with toks:=s.toks+1}) I.ns λh' hn2 Yo=>?_;obtain⟨oD,esD,epD,hoD,hdD,hcD⟩:=hn2.count<|PySem.Within.cons name v hw;refine ag<|wpAny_lookBehind hoD (by rw[hdD];exact pastItsLine_dict<|ao hcD<|by rw[bp];lia) ?_;exact aA<|h _ ⟨(Yo.2 _<|cV I.ne).trans I.obj,hn2,I.ne⟩ Yo
def Hy{A:Around}{s:Shared}{C:Addr}{R:Result->Shared->Prop}{kw:List (Str×Value)}(X:K.In s.heap)(hm:PySem.W.makesIn K C=true)(hi:PySem.W.findIn K (.ref C) "__init__"=some (some<|.ref f))(hf:PySem.W.typeIn K (.ref f)=some (.type "function"))(h:codeAny (model prog w) (A.under<|.builtin "type.__call__" ⟨.ref C::vs,kw⟩) (.call (.ref f) ⟨.ref (s.heap.objs.size+1)::vs,kw⟩) (PySem.W.InitBack (s.heap.objs.size+1) R) {s with heap:=(s.heap.push PySem.W.emptyDict).push (PySem.W.instObj C s.heap.objs.size)}):codeAny (model prog w) A (.call (.ref C) ⟨vs,kw⟩) R s:=by obtain⟨hh,g,d,t,os⟩:=s;exact PySem.W.make_core (PySem.W.makes_of X hm) (n8 X hi) (λself=>PySem.W.bind_fn X self hf) (.inl rfl) h
def m8(f:Str)(v:V):List (Str×V)->List (Str×V)|[]=>[(f,v)]|(g,x)::r=>if g=f then(g,v)::r else(g,x)::m8 f v r
def uw(f g:Str)(v:V):∀fs:List (Str×V),(m8 f v fs).lookup g=if g=f then some v else fs.lookup g
 |[]=>by
  show List.lookup g [(f,v)]=_;by_cases h:g=f;·have hb:(g==f)=true:=jq.mpr h;simp only[List.lookup,hb,ax h]
  ·have hb:(g==f)=false:=br.mpr h;simp only[List.lookup,hb,av h]
 |(k,x)::r=>by
  have ih:=uw f g v r;rw[show m8 f v ((k,x)::r)=(if k=f then(k,v)::r else(k,x)::m8 f v r)from rfl];by_cases hk:k=f
  ·rw[ax hk];by_cases h:g=k;·have hb:(g==k)=true:=jq.mpr h;simp only[List.lookup,hb,ax<|h.trans hk]
   ·have hb:(g==k)=false:=br.mpr h;simp only[List.lookup,hb,av λe:g=f=>h<|e.trans hk.symm]
  ·rw[av hk];by_cases h:g=k;·have hb:(g==k)=true:=jq.mpr h;simp only[List.lookup,hb,av λe:g=f=>hk<|h.symm.trans e]
   ·have hb:(g==k)=false:=br.mpr h;simp only[List.lookup,hb];exact ih
def tT(f:Str)(v:V):∀fs:List (Str×V),f∈(m8 f v fs).map (·.1)/\∀g,g∈fs.map (·.1)->g∈(m8 f v fs).map (·.1)
 |[]=>⟨by simp[m8],λg h=>by simp at h⟩
 |(k,x)::r=>by
  obtain⟨i1,i2⟩:=tT f v r;rw[show m8 f v ((k,x)::r)=(if k=f then(k,v)::r else(k,x)::m8 f v r)from rfl];by_cases hk:k=f;·rw[ax hk];subst hk;exact⟨by simp,λg h=>by simpa using h⟩
  ·rw[av hk];refine⟨?_,λg h=>?_⟩;·rw[aP];exact aM _ i1
   ·rw[aP]at h ⊢;rcases List.mem_cons.mp h with e |e;·exact List.mem_cons.mpr<|.inl e
    ·exact aM _<|i2 g e
def ux(f:Str)(v:V):∀fs:List (Str×V),(m8 f v fs).length<=fs.length+1
 |[]=>by simp[m8]
 |(k,x)::r=>by
  have ih:=ux f v r;rw[show m8 f v ((k,x)::r)=(if k=f then(k,v)::r else(k,x)::m8 f v r)from rfl];by_cases hk:k=f;·rw[ax hk,bp,bp];lia
  ·rw[av hk,bp,bp];lia
def Wb.some_of{o:Option Value}(r:Wb (some v) o):∃u,o=some u/\RelV v u:=by cases o with|none=>exact(show False from r).elim|some u=>exact⟨u,rfl,r⟩
def FH(r:RelV v u):PySem.W.handedIn u=true:=by
 cases v with
 |Sy=>cases(show u=Value.none from r);rfl
 |bl b=>cases(show u=Value.bool b from r);rfl
 |int i=>obtain⟨t,e⟩:=(show∃t,u=Value.int i t from r);cases e;rfl
 |str x=>obtain⟨t,e⟩:=(show∃t,u=Value.str x t from r);cases e;rfl
 |Wn b=>obtain⟨t,e⟩:=(show∃t,u=Value.bytes b t from r);cases e;rfl
 |Xe b=>obtain⟨t,e⟩:=(show∃t,u=Value.float b t from r);cases e;rfl
 |ref a=>cases(show u=Value.ref a from r);rfl
 |ty n=>cases(show u=Value.type n from r);rfl
section
variable {fs ZV:List (Str×V)}
def Az{a:Addr}(SA:U5 P w H h)(e:H a=some (.ins C dx fs)):∃mA,Wz h a dx C mA/\(∀f,Wb (fs.lookup f)<|mA f)/\PySem.Within mA (fs.map (·.1))/\fs.length<=1000/\H dx=some (.own a):=by obtain⟨d,z,ne,ob,mA,n,r,q⟩:=(show Su P w H h a (.ins C dx fs)from SA a _ e);exact⟨mA,⟨ob,n,ne⟩,r,q,z,d⟩
end
structure WL(K:ce)(C:Addr):Prop where
 pg:PySem.W.plainGet K C Str.empty=true
 hd:PySem.W.hasDictIn K C=true
 po:PySem.W.plainOver K C=true
 sa:PySem.W.findIn K (.ref C) "__setattr__"=some (some<|.builtin "object.__setattr__")
def WL.get{K:ce}(c:WL K C)(f:Str):PySem.W.plainGet K C f=true:=c.pg
def SK(K:ce)(C:Addr)(f:Str):Prop:=PySem.W.findIn K (.ref C) f=some none
def SK.Y7{K:ce}(n:SK K C f):PySem.W.takerIn K C f=some none:=by unfold PySem.W.takerIn;rw[show PySem.W.findIn K (.ref C) f=some none from n];rfl
section
variable {fs:List (Str×V)}
def wF{Q:qh}{a:Addr}(I:Inv X pins σ H s)(e:H a=some (.ins C dx fs))(c:WL X.K C)(n:SK X.K C f)(l:fs.lookup f=some v)(h:∀u s',Inv X pins σ H s'->RelV v u->Q u s'):wpAny (model X.prog X.w) A (getAttr (.ref a) f b) Q E s:=by obtain⟨mA,O,r,_,_,_⟩:=Az I.SA e;obtain⟨u,hu,ru⟩:=Wb.some_of (v:=v) (o:=mA f) (by rw[<-l];exact r f);exact Ke I.UP O (c.get f) c.hd n hu (FH ru)<|h u _ (I.tok _) ru
def vM{a:Addr}{Q:Unit->Shared->Prop}(I:Inv X pins σ H s)(e:H a=some (.ins C dx fs))(c:WL X.K C)(n:SK X.K C f)(hl:fs.length<1000)(ry:RelV y u)(h:∀s',Inv X pins σ (c6 H a<|.ins C dx<|m8 f y fs) s'->Q () s'):wpAny (model X.prog X.w) A (setAttr (.ref a) f u) Q E s:=by
 obtain⟨mA,O,r,wi,_,ho⟩:=Az I.SA e;have hz:(fs.map (·.1)).length<=sizeLine:=by rw[aj,xx];lia
 refine Jr I.UP O c.sa c.po n.Y7 c.hd wi hz λh' O' sb=>h _ ?_;have hd:∃o,h'.get? dx=some o:=let⟨o,_,_,e',_⟩:=O'.ns;⟨o,e'⟩;refine I.write (x:=a) (e:=dx) (by rw[e];exact True.intro) (.inr ho) (λb q hb z=>(sb.2 b hb).trans z) hd ?_;refine⟨by rw[aC O.ne];exact ho,?_,O.ne,O'.obj,_,O'.ns,λg=>?_,λg hg=>?_⟩;·have:=ux f y fs;lia
 ·show Wb ((m8 f y fs).lookup g) (if g=f then some u else mA g);rw[uw];by_cases q:g=f;·rw[ax q,ax q];exact ry
  ·rw[av q,av q];exact r g
 ·by_cases q:g=f;·rw[q];exact(tT f y fs).1
  ·refine(tT f y fs).2 g (wi g λz=>hg ?_);show(if g=f then some u else mA g)=none;rw[av q];exact z
def Inv.made(I:Inv X pins σ H s):Inv X pins σ (c6 (c6 H s.heap.objs.size<|.own<|s.heap.objs.size+1) (s.heap.objs.size+1)<|.ins C s.heap.objs.size []) { s with heap:=(s.heap.push PySem.W.emptyDict).push (PySem.W.instObj C s.heap.objs.size) }:=by
 have e1:(s.heap.push PySem.W.emptyDict).get? s.heap.objs.size=some PySem.W.emptyDict:=Heap.get?_push_size s.heap rfl;have e2:((s.heap.push PySem.W.emptyDict).push<|PySem.W.instObj C s.heap.objs.size).get? (s.heap.objs.size+1)=some (PySem.W.instObj C s.heap.objs.size):=by have:=Heap.get?_push_size (s.heap.push PySem.W.emptyDict) (o:=PySem.W.instObj C s.heap.objs.size) rfl;rwa [fv] at this
 have e3:(s.heap.push PySem.W.emptyDict).Ns s.heap.objs.size (fun _=>none):=⟨PySem.W.emptyDict,#[],_,e1,rfl,(fun e he=>absurd he<|by simp),fun _=>rfl⟩;have I1:=I.laid (a:=s.heap.objs.size) (o:=.own<|s.heap.objs.size+1) (h':=s.heap.push PySem.W.emptyDict) (t':=s.toks) (fun b u q=>Heap.get?_push_of_some _ q) (ar _) ⟨_,e1⟩;refine I1.laid (a:=s.heap.objs.size+1) (o:=.ins C s.heap.objs.size []) (t':=s.toks) (fun b u q=>Heap.get?_push_of_some _ q) (qg<|fv _ _) ?_;have ne:s.heap.objs.size≠s.heap.objs.size+1:=bw<|fB _;refine⟨by rw[aC ne,aI],bR _,ne,e2,fun _=>none,(Heap.Ns1.of_empty e3).at fun o q=>Heap.get?_push_of_some _ q,fun _=>True.intro,fun y hy=>absurd rfl hy⟩
def KE{env:Env}(hb:attributeBase e f env (eval e env)=eval e env)(h:wpAny (model prog w) A (eval e env) (λo s₁=>wpAny (model prog w) A (getAttr o f true) Q E s₁) E s):wpAny (model prog w) A (eval (.Attribute e f pos) env) Q E s:=Attribute_any_ h<|by rw[arm_eval_Attribute,hb]
end
def QB(K:ce)(ta:TE)(f:Str):TE:=λσ H Q=>ta σ H λx H1=>∃a C dx fs v,x=.ref a/\H1 a=some (.ins C dx fs)/\WL K C/\SK K C f/\fs.lookup f=some v/\Q v H1
def QF(K:ce)(ta tv:TE)(f:Str):TS:=λD σ H=>tv σ H λy H1=>ta σ H1 λx H2=>∃a C dx fs,x=.ref a/\H2 a=some (.ins C dx fs)/\WL K C/\SK K C f/\fs.length<1000/\D.nx σ (c6 H2 a<|.ins C dx<|m8 f y fs)
def Rs(X:Cx)(op:Operator)(rd:V->V->Hp->VK->Prop):Prop:=∀(pins:fR)(s:Shared)(σ:St)(H:Hp)(x y:V)(u v:Value)(Q:VK),Inv X pins σ H s->RelV x u->RelV y v->rd x y H Q->dR X (inplaceOp op u v) (EP X pins σ Q) X.xe s
def Jt(K:ce)(ta tv:TE)(rd:V->V->Hp->VK->Prop)(f:Str):TS:=λD σ H=>ta σ H λx H1=>∃a C dx fs v,x=.ref a/\H1 a=some (.ins C dx fs)/\WL K C/\SK K C f/\fs.lookup f=some v/\tv σ H1 λy H2=>rd v y H2 λz H3=>∃dx' ZV,H3 a=some (.ins C dx' ZV)/\ZV.length<1000/\D.nx σ (c6 H3 a<|.ins C dx'<|m8 f z ZV)
def v8(he:PE X e ta)(hb:attributeBase e f X.env (eval e X.env)=eval e X.env):PE X (.Attribute e f pos) (QB X.K ta f):=by intro pins s σ H Q I h;refine KE hb (dW (he pins s σ H _ I h) λu s1 ⟨x,H1,I1,rx,a,C,dx,fs,v,ex,ea,c,n,l,q⟩=>?_);subst ex;obtain rfl:u=Value.ref a:=rx;exact wF I1 ea c n l λu' s2 I2 ru=>⟨v,H1,I2,ru,q⟩
def Dd{pos:Pos}(ha:PE X o ta)(hv:PE X value tv)(hs:swapsWith value (some<|.Attribute o f pos') pos.line X.env=pure false):PS X (.Assign [.Attribute o f pos'] value pos) (QF X.K ta tv f):=by intro pins s σ H D I h;refine plainObj_wpAny_Assign_Attribute (dW (hv pins s σ H _ I h) λu s1 ⟨y,H1,I1,ry,q⟩=>dW (ha pins s1 σ H1 _ I1 q) λov s2 ⟨x,H2,I2,rx,a,C,dx,fs,ex,ea,c,n,l,q2⟩=>?_) hs;subst ex;obtain rfl:ov=Value.ref a:=rx;exact vM I2 ea c n l ry λs3 I3=>⟨σ,_,I3,q2⟩
def Fu{rd:V->V->Hp->VK->Prop}(ha:PE X o ta)(hv:PE X value tv)(hop:Rs X op rd):PS X (.AugAssign (.Attribute o f Y5) op value pos) (Jt X.K ta tv rd f):=by intro pins s σ H D I h;refine wpAny_AugAssign_AttributeAny (dW (ha pins s σ H _ I h) λov s1 ⟨x,H1,I1,rx,a,C,dx,fs,v,ex,ea,c,n,l,q⟩=>?_);subst ex;obtain rfl:ov=Value.ref a:=rx;refine wF I1 ea c n l λu s2 I2 ru=>dW (hv pins s2 σ H1 _ I2 q) λw3 s3 ⟨y,H2,I3,ry,q3⟩=>dW (hop pins s3 σ H2 v y u w3 _ I3 ru ry q3) λw4 s4 ⟨z,H3,I4,rz,dx',ZV,ea',l',q4⟩=>?_;exact vM I4 ea' c n l' rz λs5 I5=>⟨σ,_,I5,q4⟩
def QM:V->V->Hp->VK->Prop:=λx y H Q=>∃i j,x=.int i/\y=.int j/\Q (.int<|i+j) H
inductive ue(K:ce)(H:Hp):V->Value->Prop where
 |Sy:ue K H .Sy (.type "NoneType")
 |bl (x:Bool):ue K H (.bl x) (.type "bool")
 |int (i:Int):ue K H (.int i) (.type "int")
 |str (x:Str):ue K H (.str x) (.type "str")
 |Xe (x:UInt64):ue K H (.Xe x) (.type "float")
 |lst {a:Addr} {xs:dw} (e:H a=some (.lst xs)):ue K H (.ref a) (.type "list")
 |TB {a:Addr} {o:Obj} {xs:dw} (e:H a=some (.TB o<|.lst xs)):ue K H (.ref a) (.type "list")
 |tup {a:Addr} {xs:dw} (e:H a=some (.tup xs)):ue K H (.ref a) (.type "tuple")
 |dK {a:Addr} {kvs:List (xw×V)} (e:H a=some (.dK kvs)):ue K H (.ref a) (.type "dict")
 |dT {a:Addr} {kvs:List (List xw×V)} (e:H a=some (.dT kvs)):ue K H (.ref a) (.type "dict")
 |ins {a C dx:Addr} {fs:List (Str×V)} (e:H a=some (.ins C dx fs)) (cl:WL K C) (ha:PySem.W.findIn K (.ref C) "__class__"=some (some<|.builtin "object.__class__"))
   (hn:PySem.W.specialIn K (.builtin "object.__class__") "__get__"=some (some<|.builtin "getset_descriptor.__get__")) (htk:PySem.W.takesIn K (.builtin "object.__class__")=some true)
   (hm:PySem.W.mroIn K C (.type "object")=some true):ue K H (.ref a) (.ref C)
def FE{Q:qh}{c:Value}(I:Inv X pins σ H s)(rx:RelV x u)(ty:ue X.K H x t)(e:PySem.W.kitOne X.K t c=some b)(h:∀tk,Q (.bool b) {s with toks:=tk}):wpAny (model X.prog X.w) A (call (.builtin "isinstance") [u,c]) Q E s:=by
 cases ty with
 |Sy=>cases(show u=Value.none from rx);exact cO PySem.W.kitx_none I.UP True.intro e (λz=>nomatch z) h
 |bl y=>cases(show u=Value.bool y from rx);exact cO PySem.W.kitx_bool I.UP True.intro e (λz=>nomatch z) h
 |int i=>obtain⟨t,q⟩:=(show∃t,u=Value.int i t from rx);cases q;exact cO PySem.W.kitx_int I.UP True.intro e (λz=>nomatch z) h
 |str y=>obtain⟨t,q⟩:=(show∃t,u=Value.str y t from rx);cases q;exact cO PySem.W.kitx_str I.UP True.intro e (λz=>nomatch z) h
 |Xe y=>obtain⟨t,q⟩:=(show∃t,u=Value.float y t from rx);cases q;exact cO PySem.W.kitx_float I.UP True.intro e (λz=>nomatch z) h
 |@lst a xs ea=>cases(show u=Value.ref a from rx);obtain⟨_,_,n,_,h1⟩:=(show Su X.prog X.w H s.heap a (.lst xs)from I.SA a _ ea);exact cO PySem.W.kitx_list I.UP ⟨_,h1,rfl⟩ e (λz=>nomatch z) h
 |@TB a ob xs ea=>cases(show u=Value.ref a from rx);obtain⟨_,_,_,n,_,h1⟩:=(show Su X.prog X.w H s.heap a (.TB ob<|.lst xs)from I.SA a _ ea);exact cO PySem.W.kitx_list I.UP ⟨_,h1,rfl⟩ e (λz=>nomatch z) h
 |@tup a xs ea=>cases(show u=Value.ref a from rx);obtain⟨_,_,_,p⟩:=(show Su X.prog X.w H s.heap a (.tup xs)from I.SA a _ ea);obtain⟨o,h1,h2,_⟩:=p;exact cO PySem.W.kitx_tuple I.UP ⟨o,h1,h2⟩ e (λz=>nomatch z) h
 |@dK a kvs ea=>cases(show u=Value.ref a from rx);obtain⟨_,_,vs,_,p⟩:=(show Su X.prog X.w H s.heap a (.dK kvs)from I.SA a _ ea);obtain⟨o,es,ep,h1,h2,_⟩:=p;exact cO Gd I.UP ⟨o,h1,h2.1⟩ e (λz=>nomatch z) h
 |@dT a kvs ea=>cases(show u=Value.ref a from rx);obtain⟨_,_,xs,_,o,es,ep,h1,h2,_⟩:=(show Su X.prog X.w H s.heap a (.dT kvs)from I.SA a _ ea);exact cO Gd I.UP ⟨o,h1,h2.1⟩ e (λz=>nomatch z) h
 |@ins a C dx fs ea cl ha hn htk hm=>cases(show u=Value.ref a from rx);obtain⟨mA,O,_⟩:=Az I.SA ea;obtain⟨od,J,_⟩:=O.look;exact cO (PySem.W.kitx_own (cl.get _) cl.hd ha hn htk hm) I.UP J e (λz=>nomatch z) h
structure SR(k:Nat)(A:Around):Prop where
 hd:A.handled=none
 dp:A.depth+3*k+105<recursionLimit
 un:A.units+16*k+200<cLine
def SR.mono{j:Nat}(r:SR k A)(h:j<=k):SR j A:=⟨r.hd,by have:=r.dp;lia,by have:=r.un;lia⟩
def SR.deeper{k:Nat}(r:SR (k+1) A)(env:Env):SR k (A.deeper env):=⟨r.hd,by have:=r.dp;show A.depth+1+3*k+105<_;lia,by have:=r.un;show A.units+3+16*k+200<_;lia⟩
def Dp{A:Around}{kw:List (Str×Value)}:(A.under<|.builtin "type.__call__" ⟨.ref C::us,kw⟩).depth=A.depth+1:=by first |rfl |simp[Around.under,Code.weight,Code.isCreation,Code.isGuard,Code.isCaller,Code.frames,Code.isFrame,guardIds]
def Do{A:Around}{kw:List (Str×Value)}:(A.under<|.builtin "type.__call__" ⟨.ref C::us,kw⟩).units=A.units+1:=by first |rfl |simp[Around.under,Code.cUnits,Code.frames,Code.isFrame]
def SR.make{k:Nat}(r:SR (k+1) A)(C:Addr)(us:ir)(kw:List (Str×Value)):SR k (A.under<|.builtin "type.__call__" ⟨.ref C::us,kw⟩):=⟨r.hd,by have:=r.dp;rw[Dp];lia,by have:=r.un;rw[Do];lia⟩
def SR.UE(r:SR k A):A.depth+100<recursionLimit:=by have:=r.dp;lia
def SR.depth(r:SR k A):A.depth<recursionLimit:=by have:=r.dp;lia
def SR.units(r:SR k A):A.units+64<cLine:=by have:=r.un;lia
def Qx:TA:=λ_ H Q=>Q [] H
def Oq(ta:TE)(tr:TA):TA:=λσ H Q=>ta σ H λx H1=>tr σ H1 λxs H2=>Q (x::xs) H2
def eM:PA X [] Qx:=λ_ _ _ _ H Q I h=>Calls.spliced_nil ⟨[],H,I,.nil,h⟩
def ck(ha:PE X e te)(hr:PA X es t)(hs:Fe e es X.env:=by rfl):PA X (e::es) (Oq te t):=by intro pos pins s σ H Q I h;rw[hs];show wpAny _ _ (spliced<|(false,eval e X.env)::backTo pos (starEach es X.env)) _ _ s;refine KZ (dW (ha pins s σ H _ I h) λu s1 ⟨x,H1,I1,r1,q1⟩=>?_);exact dW (hr pos pins s1 σ H1 _ I1 q1) λus s2 ⟨xs,H2,I2,r2,q2⟩=>⟨x::xs,H2,I2,.cons r1 r2,q2⟩
def Qr(t:TA):TE:=λσ H Q=>t σ H λxs H1=>xs.length<=sizeLine/\∀p,H1 p=none->Q (.ref p) (c6 H1 p<|.tup xs)
def Qy(t:TA):TE:=λσ H Q=>t σ H λxs H1=>xs.length<=sizeLine/\∀p,H1 p=none->Q (.ref p) (c6 H1 p<|.lst xs)
def Mw{x1}(h:PA X es t):PE X (.Tuple es x1 pos) (Qr t):=by intro pins s σ H Q I hq;refine wpAny_Tuple_spliced (dW (h pos pins s σ H _ I hq) λus s1 ⟨xs,H1,I1,r,z,q⟩=>⟨by rw[<-r.length];exact z,?_⟩);have hf:H1 s1.heap.objs.size=none:=I1.SA.fresh<|ar _;refine⟨.ref s1.heap.objs.size,c6 H1 s1.heap.objs.size<|.tup xs,I1.laid (t':=s1.toks) (λb u e=>Heap.get?_push_of_some _ e) (ar _) ?_,rfl,q _ hf⟩;exact⟨z,us,r,⟨_,Heap.get?_push_size _ rfl,rfl,_,rfl⟩⟩
def Hk(h:PA X es t):PE X (.List es pos) (Qy t):=by intro pins s σ H Q I hq;refine wpAny_List_spliced (dW (h pos pins s σ H _ I hq) λus s1 ⟨xs,H1,I1,r,z,q⟩=>⟨by rw[<-r.length];exact z,?_⟩);have hf:H1 s1.heap.objs.size=none:=I1.SA.fresh<|ar _;refine⟨.ref s1.heap.objs.size,c6 H1 s1.heap.objs.size<|.lst xs,I1.laid (t':=s1.toks) (λb u e=>Heap.get?_push_of_some _ e) (ar _) ?_,rfl,q _ hf⟩;exact⟨z,us,0,r,Heap.get?_push_size _ rfl⟩
abbrev Sp:=dw->Hp->VK->XK->Prop
abbrev NR:=List Env->Hp->Shared->XK->Value->Shared->Prop
structure Wd(P:Program)(w:World)(K:ce)(mg:rG)(base:Heap)(A:Around)(outer:List Env)(s:Shared)(H:Hp):Prop where
 frames:A.frames=some outer
 mod:Mod K mg base
 bs:∀b o,base.get? b=some o->s.heap.get? b=some o/\H b=none
 Xg:base.objs.size<=s.heap.objs.size
 UK:s.heap.FunFrames base outer
 X4:∀b∈qS outer,H b=none
 SA:U5 P w H s.heap
 bare:AllBare s.gens
def CE(outer:List Env)(P:Program)(w:World)(H:Hp)(s:Shared)(Q:VK)(u:Value)(s':Shared):Prop:=∃v H',s'.os=s.os/\AllBare s'.gens/\Un (qS outer) [] H H' s.heap s'.heap/\U5 P w H' s'.heap/\RelV v u/\Q v H'
def CR(CX:NR)(outer:List Env)(P:Program)(w:World)(H:Hp)(s:Shared)(Q:VK)(E:XK)(r:Result)(s':Shared):Prop:=match r with
 |.ok (.ret u)=>CE outer P w H s Q u s'|.ok _=>False
 |.error e=>CX outer H s E e s'
structure dQ(P:Program)(w:World)(K:ce)(mg:rG)(base:Heap)(CX:NR)(k:Nat)(f:Addr)(fd:FuncData)(ps:cH)(sp:Sp):Prop where
 len:∀vs H Q E,sp vs H Q E->vs.length=ps.length
 run:∀(A:Around)(outer:List Env)(s:Shared)(H:Hp)(args:Args)(us:ir)(vs:dw)(Q:VK)(E:XK),SR k A->Wd P w K mg base A outer s H->BindsTo s fd args (ps.zip us)->Vals vs us->sp vs H Q E->
  codeAny (model P w) A (.call (.ref f) args) (CR CX outer P w H s Q E) s
def Wd.make{K:ce}{outer:List Env}(e:Wd P w K mg base A outer s H)(C:Addr)(us:ir)(kw:List (Str×Value)):Wd P w K mg base (A.under<|.builtin "type.__call__" ⟨.ref C::us,kw⟩) outer s H:=⟨by first |exact e.frames |(simpa[Around.under,Code.envs,Code.isFrame,pushEnvs]using e.frames),e.mod,e.bs,e.Xg,e.UK,e.X4,e.SA,e.bare⟩
def Inv.XH(I:Inv X pins σ H s):Wd X.prog X.w X.K X.mg X.base X.A X.stack s H:=⟨I.ok.frames,I.ok.mod,I.bs,ao I.ok.Xg I.sz,I.stack,I.Vf,I.SA,I.bare⟩
def Inv.after(I:Inv X pins σ H s)(h:CE X.stack X.prog X.w H s Q u s'):EP X pins σ Q u s':=by obtain⟨v,H',os,bare,un,SA,r,q⟩:=h;obtain⟨hh,g,d,t,os'⟩:=s';obtain rfl:os'=s.os:=os;exact⟨v,H',I.call (h':=hh) (g':=g) (d':=d) (t':=t) (ch:=[]) un SA bare λb z=>absurd z<|by simp,r,q⟩
def Os(sp:Sp)(Wm:dw)(E:XK)(t:TA):TE:=λσ H Q=>t σ H λvs H1=>sp (vs++Wm) H1 Q E
def Oo(C:Addr)(sp:Sp)(Wm:dw)(E:XK)(t:TA):TE:=λσ H Q=>t σ H λvs H1=>∀x dx,H1 x=none->H1 dx=none->dx≠x->sp (.ref x::(vs++Wm)) (c6 (c6 H1 dx<|.own x) x<|.ins C dx []) (λv H2=>v=.Sy/\Q (.ref x) H2) E
def Binds(K:ce)(fd:FuncData)(ps:cH)(ds:ir):Prop:=∀(s:Shared)(us:ir),K.In s.heap->(us++ds).length=ps.length->BindsTo s fd ⟨us,[]⟩ (ps.zip<|us++ds)
def Binds.all{K:ce}{ps:cH}(h:∀us:ir,us.length=ps.length->bindArgs fd ⟨us,[]⟩=pure (ps.zip us)):Binds K fd ps []:=λs us _ hl=>by rw[bC]at hl ⊢;exact .of_eq<|h us hl
def ia(CX:NR)(X:Cx)(E:XK):Prop:=∀(pins:fR)(σ:St)(H:Hp)(s:Shared)(e:Value)(s':Shared),Inv X pins σ H s->CX X.stack H s E e s'->X.xe e s'
section
variable {ds:ir}{E:XK}
def Mm{X:Cx}(F:dQ X.prog X.w X.K X.mg X.base CX k f fd ps sp)(hr:SR k X.A)(hb:Binds X.K fd ps ds)(hd:Vals Wm ds)(hx:ia CX X E)(I:Inv X pins σ H s)(r:Vals vs us)(h:sp (vs++Wm) H Q E):dR X (call (.ref f) us) (EP X pins σ Q) X.xe s:=by
 have r2:Vals (vs++Wm) (us++ds):=r.append hd;have hl:(us++ds).length=ps.length:=by rw[<-r2.length];exact F.len _ _ _ _ h
 refine R1 (uj (F.run X.A X.stack s H ⟨us,[]⟩ (us++ds) (vs++Wm) Q E hr I.XH (hb s us I.UP hl) r2 h) λr s' hq=>?_);cases r with
 |error e=>exact hx pins σ H s e s' I hq
 |ok fl=>
  cases fl with
  |ret u=>exact I.after hq|next=>exact False.elim hq
  |brk=>exact False.elim hq|cont=>exact False.elim hq
def j8{X:Cx}(F:dQ X.prog X.w X.K X.mg X.base CX k f fd ps sp)(hr:SR k X.A)(hg:Gl X x)(hm:X.mg x=some (.ref f))(hk:PySem.W.keepIn X.K (.ref f)=true)(hb:Binds X.K fd ps ds)(hd:Vals Wm ds)(hx:ia CX X E)(ha:PA X (e::es) t)(T7:qF x:=by decide)(he:Fe e es X.env:=by rfl)(U2:vv pos es X.env:=by rfl):PE X (.Call (.Name x p) (e::es) [] pos) (Os sp Wm E t):=by intro pins s σ H Q I h;refine jb<|nc I hg hm ?_ T7;refine rC (h₀:=X.base) I.ok.mod.WW hk (dW (ha pos pins s σ H _ I h) λus s1 ⟨vs,H1,I1,r,q⟩=>⟨I1.UP,?_⟩) he U2;exact Mm F hr hb hd hx I1 r q
structure Mk(K:ce)(C f:Addr):Prop where
 makes:PySem.W.makesIn K C=true
 init:PySem.W.findIn K (.ref C) "__init__"=some (some<|.ref f)
 fn:PySem.W.isFn K (.ref f)=true
 kp:PySem.W.keepIn K (.ref C)=true
def GU{Q:VK}{X:Cx}(M:Mk X.K C f)(F:dQ X.prog X.w X.K X.mg X.base CX k f fd ps sp)(hr:SR (k+1) X.A)(hb:Binds X.K fd ps ds)(hd:Vals Wm ds)(hx:ia CX X E)(I:Inv X pins σ H s)(r:Vals vs us)(h:∀x dx,H x=none->H dx=none->dx≠x->sp (.ref x::(vs++Wm)) (c6 (c6 H dx<|.own x) x<|.ins C dx []) (λv H2=>v=.Sy/\Q (.ref x) H2) E):dR X (call (.ref C) us) (EP X pins σ Q) X.xe s:=by
 have hq:=h (s.heap.objs.size+1) s.heap.objs.size (I.SA.fresh<|Nat.le_succ _) (I.SA.fresh<|ar _)<|bw<|fB _;have I2:=Inv.made (C:=C) I;have r2:Vals (V.ref (s.heap.objs.size+1)::(vs++Wm)) (Value.ref (s.heap.objs.size+1)::(us++ds)):=.cons rfl<|r.append hd;have hl:(Value.ref (s.heap.objs.size+1)::us++ds).length=ps.length:=by have e:=r2.length;rw[F.len _ _ _ _ hq]at e;exact e.symm
 refine R1<|Hy (f:=f) I.UP M.makes M.init (jq.mp M.fn) (uj (F.run _ X.stack _ _ ⟨Value.ref (s.heap.objs.size+1)::us,[]⟩ (Value.ref (s.heap.objs.size+1)::(us++ds)) _ _ E (hr.make C us []) (I2.XH.make C us []) (hb _ (Value.ref (s.heap.objs.size+1)::us) I2.UP hl) r2 hq) λr s' Xy=>?_);cases r with
 |error e=>exact hx pins σ _ _ e s' I2 Xy
 |ok fl=>
  cases fl with
  |ret u=>obtain⟨v,H',I3,rv,ev,q3⟩:=I2.after Xy;subst ev;exact⟨rv,⟨V.ref<|s.heap.objs.size+1,H',I3,rfl,q3⟩⟩
  |next=>exact False.elim Xy|brk=>exact False.elim Xy
  |cont=>exact False.elim Xy
def JQ{X:Cx}(M:Mk X.K C f)(F:dQ X.prog X.w X.K X.mg X.base CX k f fd ps sp)(hr:SR (k+1) X.A)(hg:Gl X x)(hm:X.mg x=some (.ref C))(hb:Binds X.K fd ps ds)(hd:Vals Wm ds)(hx:ia CX X E)(ha:PA X (e::es) t)(T7:qF x:=by decide)(he:Fe e es X.env:=by rfl)(U2:vv pos es X.env:=by rfl):PE X (.Call (.Name x p) (e::es) [] pos) (Oo C sp Wm E t):=by intro pins s σ H Q I h;refine jb<|nc I hg hm ?_ T7;refine rC (h₀:=X.base) I.ok.mod.WW M.kp (dW (ha pos pins s σ H _ I h) λus s1 ⟨vs,H1,I1,r,q⟩=>⟨I1.UP,?_⟩) he U2;exact GU M F hr hb hd hx I1 r q
end
structure aJ(N P:cH)(sc:Scope):Prop where
 kind:sc.kind=.function
 co:sc.isCoroutine=false
 gen:sc.isGenerator=false
 nd:N.Nodup
 pre:N.take P.length=P
 par:∀x∈P,sc.names.lookup x=some .local\/sc.names.lookup x=some .cell
 Yh:∀y∈sc.names,y.2≠.free
def zh{kindOf:Str->Option NameKind}:∀{binds:List (Str×Value)}{m:rG},(∀v,(x,v)∉binds)->bindL kindOf binds m x=m x
 |[],_,_=>rfl
 |(n,v)::r,m,h=>by
  unfold bindL;rw[zh λw hw=>h w<|aM _ hw];split
  ·have:x≠n:=by rintro rfl;exact h v bX
   simp[this]
  ·rfl
def zj{kindOf:Str->Option NameKind}:∀{binds:List (Str×Value)}{m:rG},(∀v,(x,v)∉binds)->bindC kindOf binds m x=m x
 |[],_,_=>rfl
 |(n,v)::r,m,h=>by
  unfold bindC;rw[zj λw hw=>h w<|aM _ hw];split;·rfl
  ·have:x≠n:=by rintro rfl;exact h v bX
   simp[this]
def zi{kindOf:Str->Option NameKind}:∀{P:cH}{vs:ir}{i:Nat}{m:rG},P.Nodup->P[i]?=some x->vs[i]?=some v->kindOf x=some .local->bindL kindOf (P.zip vs) m x=some v
 |[],_,_,_,_,h,_,_=>by simp at h|_::_,[],_,_,_,_,h,_=>by simp at h
 |p::P,w::vs,0,m,nd,h1,h2,hk=>by simp at h1 h2;subst h1;subst h2;show bindL kindOf ((p,w)::P.zip vs) m p=_;unfold bindL;rw[zh λv hv=>(dG.mp nd).1 (KU hv).1,ax hk];simp|p::P,w::vs,i+1,m,nd,h1,h2,hk=>by show bindL kindOf ((p,w)::P.zip vs) m x=_;unfold bindL;exact zi (i:=i) (dG.mp nd).2 (by simpa using h1) (by simpa using h2) hk
def zk{kindOf:Str->Option NameKind}:∀{P:cH}{vs:ir}{i:Nat}{m:rG},P.Nodup->P[i]?=some x->vs[i]?=some v->kindOf x≠some .local->bindC kindOf (P.zip vs) m x=some v
 |[],_,_,_,_,h,_,_=>by simp at h|_::_,[],_,_,_,_,h,_=>by simp at h
 |p::P,w::vs,0,m,nd,h1,h2,hk=>by simp at h1 h2;subst h1;subst h2;show bindC kindOf ((p,w)::P.zip vs) m p=_;unfold bindC;rw[zj λv hv=>(dG.mp nd).1 (KU hv).1,av hk];simp|p::P,w::vs,i+1,m,nd,h1,h2,hk=>by show bindC kindOf ((p,w)::P.zip vs) m x=_;unfold bindC;exact zk (i:=i) (dG.mp nd).2 (by simpa using h1) (by simpa using h2) hk
def start(N:cH)(vs:dw):St:=vs.map some++List.replicate (N.length-vs.length) none
def mI(CX:NR)(P:Program)(w:World)(K:ce)(mg:rG)(base:Heap)(N:cH)(qual:Str)(scope:Scope)(f:Addr)(cd:Value)(A:Around)(outer:List Env)(s:Shared)(H:Hp)(E:XK):Cx where
 prog:=P
 w:=w
 K:=K
 mg:=mg
 base:=base
 A:=A.deeper<|envOfC qual scope s.heap.objs.size f cd
 N:=N
 s₀:=s
 H₀:=H
 env:=envOfC qual scope s.heap.objs.size f cd
 outer:=outer
 stack:=envOfC qual scope s.heap.objs.size f cd::outer
 ex:=[]
 calm:=true
 fn:=λ_=>true
 pn:=[]
 xe:=λe s'=>wpAny (model P w) (A.deeper<|envOfC qual scope s.heap.objs.size f cd) (leaving (envOfC qual scope s.heap.objs.size f cd) e) (λ_ UO=>CX outer H s E e UO) (λe' UO=>CX outer H s E e' UO) s'
def Co{sc:Scope}{x:Str}(h:sc.names.lookup x=some .cell):∃c,(cellsFrom n sc.names []).lookup x=some c:=by have q:=Rv sc.names n []<|.inl h;exact Option.isSome_iff_exists.mp q
def FF{K:ce}{A:Around}{vs:dw}{outer:List Env}{E:XK}(S:aJ N ps scope)(hd:A.handled=none)(e0:Wd P w K mg base A outer s H)(hl:vs.length=ps.length)(r:Vals vs us)(x:InCallC s s.heap.objs.size (bindL (envOfC qual scope s.heap.objs.size f cd).kindOf (ps.zip us) λ_=>none) (cellsFrom (s.heap.objs.size+1) scope.names []) (bindC (envOfC qual scope s.heap.objs.size f cd).kindOf (ps.zip us) λ_=>none) s1):Inv (mI CX P w K mg base N qual scope f cd A outer s H E) [] (start N vs) H s1:=by
 have U2:ps.length<=N.length:=by have:=aV List.length S.pre;rw[cQ]at this;lia
 obtain⟨h1,tk,rfl,hk⟩:=x.done;have Zk:∀b:Addr,b∉(mI CX P w K mg base N qual scope f cd A outer s H E).ex:=λb z=>absurd (show b∈([]:List Addr)from z)<|by simp
 refine⟨⟨e0.mod,S.kind,rfl,rfl,ar _,λy z c h1 h2=>?_,λy hy=>?_,λy c _ h=>?_,λ_=>hd,Around.frames_deeper e0.frames,.inr ⟨rfl,rfl⟩,λb z=>absurd z<|Zk b,e0.bs,e0.Xg,λb _ _=>Zk b,λb z=>absurd z<|Zk b,e0.UK,e0.X4⟩,
  rfl,e0.bare,Un.kept hk,⟨_,x.toInCall.ns,λi y v h1 h2 h3=>?_⟩,λy c h=>⟨_,x.cell y c h⟩,e0.SA.fresh (ar _),λy c h=>?_,λp hp=>absurd (show p∈([]:fR)from hp) (by simp),e0.SA.kept hk,?_⟩
 ·exact name_of_addr x.apart (gz h1)<|gz h2
 ·have hy:scope.names.lookup y=some .cell\/scope.names.lookup y=some .free:=hy;rcases hy with hy |hy;·exact Co hy
  ·exact absurd rfl<|S.Yh _<|gz hy
 ·exact Gh<|x.above y c<|gz h
 ·have hi:i<vs.length:=by
   unfold start at h2;by_cases hi:i<vs.length;·exact hi
   ·rw[List.getElem?_append_right<|by simpa using hi]at h2;rw[List.getElem?_replicate]at h2;split at h2<;>cases h2
  have ha:vs[i]?=some v:=by
   unfold start at h2;rw[List.getElem?_append_left<|by simpa using hi,List.getElem?_map]at h2;cases e:vs[i]? with
   |none=>rw[e]at h2;cases h2
   |some a=>rw[e]at h2;cases h2;rfl
  obtain⟨u,hu,rv⟩:=r.get ha;have hp:ps[i]?=some y:=by rw[<-S.pre,List.getElem?_take_of_lt<|by lia];exact h1
  have ndP:ps.Nodup:=by rw[<-S.pre];exact S.nd.sublist<|List.take_sublist _ _
  refine⟨u,rv,?_⟩;rcases S.par y (List.mem_of_getElem? hp)with k |k;·exact .inl ⟨k,zi ndP hp hu k⟩
  ·obtain⟨c,e⟩:=Co (n:=s.heap.objs.size+1) k;refine .inr ⟨.inl k,c,e,?_⟩;have q:=x.cell y c e;rw[zk ndP hp hu<|by show scope.names.lookup y≠_;rw[k];decide]at q;exact q
 ·exact e0.SA.fresh<|Gh<|x.above y c<|gz h
 ·unfold start;show _=N.length;rw[aq,aj,iZ];lia
def HX{K:ce}{f:Addr}{name qual:Str}{body:List Stmt}{scope:Scope}{dV kV doc pm S8 ct:Value}{an:Option Addr}{sp:Sp}{params:Arguments}(lk:K.lookup f=some ⟨oc,od,.func<|PySem.W.fnOf name qual params body scope dV kV doc pm an S8 ct,Xv⟩)(Wu:PySem.W.codeIn K S8 qual=true)(S:aJ N ps scope)(len:∀vs H Q E,sp vs H Q E->vs.length=ps.length)(W0:∀(A:Around)(outer:List Env)(s:Shared)(H:Hp)(vs:dw)(Q:VK)(E:XK),SR k (A.deeper<|envOfC qual scope s.heap.objs.size f S8)->sp vs H Q E->∃t,Wc (mI CX P w K mg base N qual scope f S8 A outer s H E) body t/\t {nx:=λ_ H'=>Q .Sy H',rt:=Q} (start N vs) H):dQ P w K mg base CX (k+1) f (PySem.W.fnOf name qual params body scope dV kV doc pm an S8 ct) ps sp:=by
 refine⟨len,λA outer s H args us vs Q E hr e0 hb r Wj=>?_⟩;have hl:=len _ _ _ _ Wj;have KX:K.In s.heap:=e0.mod.WW.keeps λb o e=>(e0.bs b o e).1;have lim:s.heap.NoLimit:=e0.mod.nolimit.keeps λb o e=>(e0.bs b o e).1;have ZG:∀y∈ps.zip us,scope.names.lookup y.1=some .local\/(scope.names.lookup y.1=some .cell/\((cellsFrom (s.heap.objs.size+1) scope.names []).lookup y.1).isSome=true):=λ⟨n,v⟩ hy=>by
  rcases S.par n (KU hy).1 with q |q;·exact .inl q
  ·exact .inr ⟨q,Rv _ _ _<|.inl q⟩
 refine codeAny_call_function hr.depth (KX _ _ lk) rfl S.co S.gen rfl (PySem.W.codeRec_of KX Wu)<|hb _ _ _ _ ?_;refine wpAny_newFunctionEnv_cells S.kind ZG λenv he s1 x=>?_;subst he;refine⟨lim.keeps x.toInCall.keep,codeAny_func ?_⟩;obtain⟨t,ht,hq⟩:=W0 A outer s H vs Q E (hr.deeper _) Wj;have I:Inv (mI CX P w K mg base N qual scope f S8 A outer s H E) [] (start N vs) H s1:=FF S hr.hd e0 hl r x;refine aL (ht [] s1 (start N vs) H _ I hq) (λfl s' hs=>?_) λe s' hs=>hs;have fin:∀{σ':St}{H':Hp}{v:V}{u:Value},Inv (mI CX P w K mg base N qual scope f S8 A outer s H E) [] σ' H' s'->RelV v u->Q v H'->CE outer P w H s Q u s':=λ{σ' H' v u}J rv q=>⟨v,H',J.os,J.bare,J.base,J.SA,rv,q⟩;cases fl with
 |ret u=>obtain⟨v,σ',H',J,rv,q⟩:=hs;exact fin J rv q
 |next=>obtain⟨σ',H',J,q⟩:=hs;exact fin (v:=V.Sy) (u:=Value.none) J rfl q
 |brk=>obtain⟨_,_,_,q⟩:=hs;exact False.elim q
 |cont=>obtain⟨_,_,_,q⟩:=hs;exact False.elim q
section
variable {id:String}{r:dw->Hp->VK->Prop}
def RA(r:dw->Hp->VK->Prop)(t:TA):TE:=λσ H Q=>t σ H λvs H1=>r vs H1 Q
def iM(hc:gS X (.builtin id) r)(hg:Gl X x)(hm:X.mg x=none)(hv:bootBuiltins x=some (.builtin id))(ha:PA X (e::es) t)(hn:x≠"__name__":=by decide)(T7:qF x:=by decide)(he:Fe e es X.env:=by rfl)(U2:vv pos es X.env:=by rfl):PE X (.Call (.Name x p) (e::es) [] pos) (RA r t):=by intro pins s σ H Q I h;refine jb<|wz I hg hm hv ?_ hn T7;exact PyProof.Rows.callWith_builtin1 (dW (ha pos pins s σ H _ I h) λus s1 ⟨vs,H1,I1,r1,q1⟩=>hc pins s1 σ H1 vs us Q I1 r1 q1) he U2
def mB(hc:gS X (.type T) r)(hg:Gl X x)(hm:X.mg x=none)(hv:bootBuiltins x=some (.type T))(ha:PA X (e::es) t)(hn:x≠"__name__":=by decide)(T7:qF x:=by decide)(he:Fe e es X.env:=by rfl)(U2:vv pos es X.env:=by rfl):PE X (.Call (.Name x p) (e::es) [] pos) (RA r t):=by intro pins s σ H Q I h;refine jb<|wz I hg hm hv ?_ hn T7;exact qf (dW (ha pos pins s σ H _ I h) λus s1 ⟨vs,H1,I1,r1,q1⟩=>hc pins s1 σ H1 vs us Q I1 r1 q1) he U2
end
end L2
namespace HT
open PySem PyProof.Rows
variable {K:ce}
section
open PySem.SeqAt
open PySem.AutoSeq1 (wpAny_loadPart')
open PySem.MeetsSeq PySem.MeetsSeq2 PySem.MeetsSeq3
end
def UI(n d:Nat):Option Int->Nat|none=>d|some v=>if v<0 then(v+(n:Int)).toNat else min v.toNat n
def VO(n d:Nat):UI n d none=d:=rfl
def Wf(n d k:Nat):UI n d (some (k:Int))=min k n:=by show(if(k:Int)<0 then((k:Int)+(n:Int)).toNat else min (k:Int).toNat n)=min k n;rw[av<|by lia,aO]
end HT
namespace L2
open PySem PySem.Spec PyProof.Rows
variable {K:ce}
abbrev TO:=St->Hp->(Option Int->Hp->Prop)->Prop
def PO(X:Cx)(e:Option Expr)(t:TO):Prop:=∀(pins:fR)(s:Shared)(σ:St)(H:Hp)(Q:Option Int->Hp->Prop),Inv X pins σ H s->t σ H Q->dR X (evalPart e X.env) (λu s'=>∃o H',Inv X pins σ H' s'/\IsPart u o/\Q o H') X.xe s
def Jl:TO:=λ_ H Q=>Q none H
def Ol(t:TE):TO:=λσ H Q=>t σ H λx H1=>∃i,x=.int i/\Q (some i) H1
section
variable {lo hi:Option Expr}{tl th:TO}
def JN:PO X none Jl:=by intro pins s σ H Q I h;rw[evalPart_none];exact aA ⟨none,H,I,.none,h⟩
def Am(h:PE X e te):PO X (some e) (Ol te):=by intro pins s σ H Q I hw;rw[evalPart_some];refine dW (h pins s σ H _ I hw) λu s1 ⟨x,H1,I1,r1,q1⟩=>?_;obtain⟨i,rfl,q⟩:=q1;obtain⟨t,rfl⟩:=r1;exact⟨some i,H1,I1,.int i t,q⟩
def Re(X:Cx)(r:V->Option Int->Option Int->Hp->VK->Prop):Prop:=∀(pins:fR)(s:Shared)(σ:St)(H:Hp)(x:V)(v vl vu:Value)(lo hi:Option Int)(sl:Addr)(Q:VK),Inv X pins σ H s->RelV x v->s.heap.IsSliceOf sl vl vu .none->IsPart vl lo->IsPart vu hi->r x lo hi H Q->∃T id,typeLookup (.type T) "__getitem__"=pure (some<|.builtin id)/\s.TypeIs v T/\dR X (getItem v<|.ref sl) (EP X pins σ Q) X.xe s
def RN(r:V->Option Int->Option Int->Hp->VK->Prop)(te:TE)(tl th:TO):TE:=λσ H Q=>te σ H λx H1=>tl σ H1 λl H2=>th σ H2 λu H3=>r x l u H3 Q
def v7{r:V->Option Int->Option Int->Hp->VK->Prop}(hr:Re X r)(he:PE X e te)(hl:PO X lo tl)(hu:PO X hi th):PE X (.Subscript e (.Slice lo hi none p2) pos) (RN r te tl th):=by intro pins s σ H Q I h;refine Subscript_ (dW (he pins s σ H _ I h) λv s1 ⟨x,H1,I1,r1,q1⟩=>?_);refine wpAny_Slice (dW (hl pins s1 σ H1 _ I1 q1) λvl s2 ⟨l,H2,I2,pl,q2⟩=>dW (hu pins s2 σ H2 _ I2 q2) λvu s3 ⟨u,H3,I3,pu,q3⟩=>?_);rw[evalPart_none];refine aA ?_;have I4:Inv X pins σ H3 {s3 with heap:=s3.heap.push {cls:=.type "slice",data:=.fields #[vl,vu,.none]}}:=I3.kept (t':=s3.toks) λb ob q=>Heap.get?_push_of_some _ q;obtain⟨T,id,hT,ht,hg⟩:=hr pins {s3 with heap:=s3.heap.push {cls:=.type "slice",data:=.fields #[vl,vu,.none]}} σ H3 x v vl vu l u s3.heap.objs.size Q I4 r1 (Heap.IsSliceOf.new ..) pl pu q3;show dR X (subscriptTail e (.Slice lo hi none p2) v<|.ref s3.heap.objs.size) (EP X pins σ Q) X.xe {s3 with heap:=s3.heap.push {cls:=.type "slice",data:=.fields #[vl,vu,.none]}};exact tail_any (ops:=[.ref s3.heap.objs.size,v]) ht hT hg<|by with_unfolding_all rfl
def FP(xs:dw)(lo hi:Option Int):dw:=(xs.drop<|HT.UI xs.length 0 lo).take<|HT.UI xs.length xs.length hi-HT.UI xs.length 0 lo
def Cm(xs:dw)(lo hi:Option Int):(FP xs lo hi).length<=xs.length:=by unfold FP;rw[cQ,bP];lia
end
def EI(n:Nat)(i:Int):Option Nat:=if 0<=i then(if i<n then some i.toNat else none)else if-(n:Int)<=i then some (i+n).toNat else none
def kS{α:Type}(xs:List α)(i:Int):Option α:=(EI xs.length i).bind λj=>xs[j]?
def EH{i:Int}(h:EI n i=some j):seqIndex? i n=some j/\j<n/\-(n:Int)<=i/\i<n:=by
 unfold EI at h;by_cases h0:0<=i
 ·rw[ax h0]at h;by_cases h1:i<n;·rw[ax h1]at h;have e:i.toNat=j:=bz h;exact⟨by rw[Qf h0 h1,e],by lia,by lia,h1⟩
  ·rw[av h1]at h;cases h
 ·rw[av h0]at h;by_cases h1: -(n:Int)<=i;·rw[ax h1]at h;have e:(i+n).toNat=j:=bz h;exact⟨by rw[NT (by lia) h1,e],by lia,h1,by lia⟩
  ·rw[av h1]at h;cases h
def vm{i:Int}{α:Type}{xs:List α}{v:α}(h:kS xs i=some v):∃j,seqIndex? i xs.length=some j/\xs[j]?=some v/\j<xs.length/\-(xs.length:Int)<=i/\i<xs.length:=by
 unfold kS at h;cases e:EI xs.length i with
 |none=>rw[e]at h;cases h
 |some j=>rw[e]at h;obtain⟨h1,h2,h3,h4⟩:=EH e;exact⟨j,h1,h,h2,h3,h4⟩
def dJ{j:Nat}{α:Type}{xs:List α}{v:α}(h:xs[j]?=some v):kS xs (j:Int)=some v:=by
 have hj:j<xs.length:=(List.getElem?_eq_some_iff.mp h).1;have e:EI xs.length (j:Int)=some j:=by unfold EI;rw[ax<|by lia,ax<|by lia];simp
 unfold kS;rw[e];exact h
def sV(b:Expr):Prop:=∀o i,subscripted b false o i=operate [o,i] (getItem o i)
def Qb(X:Cx)(r:R2):Prop:=∀(value slice:Expr)(pins:fR)(s:Shared)(σ:St)(H:Hp)(x y:V)(v u:Value)(Q:VK),Inv X pins σ H s->RelV x v->RelV y u->r x y H Q->subscripted slice false v u=operate [v,u] (getItem v u)->dR X (subscriptTail value slice v u) (EP X pins σ Q) X.xe s
def Rk(X:Cx)(id:String)(r:V->dw->Hp->VK->Prop):Prop:=∀(pins:fR)(s:Shared)(σ:St)(H:Hp)(x:V)(xs:dw)(v:Value)(us:ir)(Q:VK),Inv X pins σ H s->RelV x v->Vals xs us->r x xs H Q->dR X (call (.builtin id)<|v::us) (EP X pins σ Q) X.xe s
section
def Ex{r:R2}(hr:Qb X r)(ha:PE X a ta)(hb:PE X b tb)(hs:sV b):PE X (.Subscript a b pos) (PZ r ta tb):=by intro pins s σ H Q I h;exact Subscript_ (NE ha hb I h λv u s2 x y H2 I2 rx ry q=>hr a b pins s2 σ H2 x y v u Q I2 rx ry q<|hs _ _)
def OL(K:ce):R2:=λx y H Q=>∃p xs i v,x=.ref p/\y=.int i/\Ts K H p xs/\kS xs i=some v/\Q v H
def QJ(K:ce):R2:=λx y H Q=>∃p xs i v,x=.ref p/\y=.int i/\Uu K H p xs/\kS xs i=some v/\Q v H
def QK:R2:=λx y H Q=>∃z i c,x=.str z/\y=.int i/\z.length<=sizeLine/\kS z.cps.toList i=some c/\Q (.str ⟨#[c]⟩) H
def EG:Qb X (OL X.K):=by
 intro value slice pins s σ H x y v u Q I rx ry h hs;obtain⟨p,xs,i,z,rfl,rfl,hq,he,q⟩:=h;cases rx;obtain⟨t,rfl⟩:=ry;obtain⟨its,r,pl,hz⟩:=I.list hq;obtain⟨j,h1,h2,h3,h4,h5⟩:=vm he;obtain⟨w,ew,U1⟩:=r.get h2;have hl:=r.length;have hn:=oH;have fin:EP X pins σ Q w s:=⟨z,H,I,U1,q⟩;by_cases h0:0<=i
 ·have hj:i.toNat=j:=by rw[Qf h0 h5]at h1;exact bz h1
  exact item_listR pl.isList h0 (by lia) (by rw[hj];simpa using ew) fin hs
 ·have hj:(i+(its.toArray.size:Int)).toNat=j:=by rw[NT (by lia) h4]at h1;rw[aE,<-hl];exact bz h1
  exact rF (x:=w) pl.isList.typeIs slot_list_getitem.lookup (wpAny_getItem_list_neg (Q:=λr s'=>r=w/\EP X pins σ Q r s') pl.isList (by lia) (by rw[aE]<;>lia) (by lia) (by rw[hj];simpa using ew) ⟨rfl,fin⟩) hs
def M4:Qb X (QJ X.K):=by intro value slice pins s σ H x y v u Q I rx ry h hs;obtain⟨p,xs,i,z,rfl,rfl,hq,he,q⟩:=h;cases rx;obtain⟨t,rfl⟩:=ry;obtain⟨its,r,pl,hz⟩:=I.tuple hq;obtain⟨j,h1,h2,h3,h4,h5⟩:=vm he;obtain⟨w,ew,U1⟩:=r.get h2;have hl:=r.length;have hn:=oH;have fin:EP X pins σ Q w s:=⟨z,H,I,U1,q⟩;exact rF (x:=w) pl.typeIs slot_tuple_getitem.lookup (getItem_tuple (j:=j) (Q:=λr s'=>r=w/\EP X pins σ Q r s') pl (by lia) (by lia) (by rw[aE,<-hl];exact h1) (by simpa using ew) ⟨rfl,fin⟩) hs
def M5:Qb X QK:=by
 intro value slice pins s σ H x y v u Q I rx ry h hs;obtain⟨z,i,c,rfl,rfl,hz,he,q⟩:=h;obtain⟨t,rfl⟩:=rx;obtain⟨t',rfl⟩:=ry;obtain⟨j,h1,h2,h3,h4,h5⟩:=vm he;have hl:z.cps.toList.length=z.length:=by simp[Str.length]
 rw[hl]at h1 h4 h5;have hn:=oH;exact tail_any (typeIs_str s z t) slot_str_getitem.lookup (getItem_str (c:=c) (by have e1:decide (i< -(2 ^ 63:Int))=false:=ak (by lia);have e2:decide (i≥2 ^ 63)=false:=ak (by lia);rw[e1,e2,PM]) (by rw[h1];simpa using h2) ⟨.str ⟨#[c]⟩,H,I.tok _,⟨_,rfl⟩,q⟩) hs
def Dn(its:ir)(n j:Nat)(u:Value):Obj.mapSeq (·.setIfInBounds j u) {cls:=.type "list",data:=.seq its.toArray n}={cls:=.type "list",data:=.seq (its.set j u).toArray n}:=by simp[Obj.mapSeq]
def Inv.lst{p:Addr}(I:Inv X pins σ H s)(h:H p=some (.lst xs)):∃(its:ir)(n:Nat),Vals xs its/\s.heap.get? p=some {cls:=.type "list",data:=.seq its.toArray n}/\xs.length<=sizeLine:=by obtain⟨z,its,n,r,e⟩:=I.SA p _ h;exact⟨its,n,r,e,z⟩
def Inv.Yj{p:Addr}{its its':ir}{f:Obj->Obj}(I:Inv X pins σ H s)(h:H p=some (.lst xs))(ho:s.heap.get? p=some {cls:=.type "list",data:=.seq its.toArray n})(hf:f {cls:=.type "list",data:=.seq its.toArray n}={cls:=.type "list",data:=.seq its'.toArray n'})(r:Vals ys its')(hz:ys.length<=sizeLine)(t:Nat):Inv X pins σ (c6 H p<|.lst ys) {s with heap:=s.heap.update p f,toks:=t}:=by
 have e:(s.heap.update p f).get? p=some {cls:=.type "list",data:=.seq its'.toArray n'}:=by rw[Heap.get?_update_self f ho<|by rw[hf]<;>rfl,hf]
 refine I.write (x:=p) (e:=p) (by rw[h];trivial) (.inl rfl) (λb u hb q=>(Heap.get?_update_other _ _<|cV hb).trans q) ⟨_,e⟩ ?_;exact⟨hz,its',n',r,e⟩
def OJ:V->V->V->Hp->(Hp->Prop)->Prop:=λo i v H Q=>∃p xs k j,o=.ref p/\i=.int k/\H p=some (.lst xs)/\EI xs.length k=some j/\Q (c6 H p<|.lst<|xs.set j v)
def BJ:KM X OJ:=by
 intro pins s σ H o i v ov iv u Q I ro ri rv h;obtain⟨p,xs,k,j,rfl,rfl,hp,hj,q⟩:=h;cases ro;obtain⟨t,rfl⟩:=ri;obtain⟨its,n,r,ho,hz⟩:=I.lst hp;obtain⟨h1,h2,h3,h4⟩:=EH hj;have hl:=r.length;have hn:=oH;have I':Inv X pins σ (c6 H p<|.lst<|xs.set j v) {s with heap:=s.heap.update p (Obj.mapSeq (·.setIfInBounds j u))}:=I.Yj hp ho (Dn its n j u) (r.set rv j) (by rw[bq];exact hz) s.toks;by_cases h0:0<=k
 ·have hk:k.toNat=j:=by rw[Qf h0 h4]at h1;exact bz h1
  exact PySem.W.ki_setAt ho h0 (by lia) (by rw[aE,<-hl];exact h4)<|by rw[hk];exact⟨_,I',q⟩
 ·have hk:(k+(its.toArray.size:Int)).toNat=j:=by rw[NT (by lia) h3]at h1;rw[aE,<-hl];exact bz h1
  exact PySem.W.ki_setBack ho (by lia) (by rw[aE,<-hl];exact h3) (by lia)<|by rw[hk];exact⟨_,I',q⟩
def Aa(lo hi:Option Int)(n:Nat):(sliceBounds lo hi none n).1=((HT.UI n 0 lo:Nat):Int)/\(sliceBounds lo hi none n).2.1=((HT.UI n n hi:Nat):Int)/\(sliceBounds lo hi none n).2.2=1:=by
 refine⟨?_,?_,rfl⟩
 ·cases lo with
  |none=>simp[sliceBounds,HT.UI]
  |some i=>
   simp only[sliceBounds,HT.UI,Option.getD_none,show(1:Int)>0 by decide,xn];by_cases h:i<0;·simp only[h,xn]<;>lia
   ·simp only[h,Gc]<;>lia
 ·cases hi with
  |none=>simp[sliceBounds,HT.UI]
  |some i=>
   simp only[sliceBounds,HT.UI,Option.getD_none,show(1:Int)>0 by decide,xn];by_cases h:i<0;·simp only[h,xn]<;>lia
   ·simp only[h,Gc]<;>lia
def xE(its:ir)(lo hi:Option Int):slicePick its.toArray lo hi none=((its.drop<|HT.UI its.length 0 lo).take<|HT.UI its.length its.length hi-HT.UI its.length 0 lo).toArray:=by obtain⟨h1,h2,h3⟩:=Aa lo hi its.toArray.size;unfold slicePick;rw[h1,h2,h3];simp only[sliceRange_one,pick_run,aE]<;>rfl
def QG(K:ce):V->Option Int->Option Int->Hp->VK->Prop:=λx lo hi H Q=>∃a xs,x=.ref a/\Ts K H a xs/\∀p,H p=none->Q (.ref p) (c6 H p<|.lst<|FP xs lo hi)
def Jp:Re X (QG X.K):=by intro pins s σ H x v vl vu lo hi sl Q I rx hs pl pu h;obtain⟨a,xs,rfl,hx,q⟩:=h;cases rx;obtain⟨its,r,ht,hz⟩:=I.list hx;have hlen:=r.length;refine⟨"list",_,slot_list_getitem.lookup,ht.isList.typeIs,?_⟩;refine wpAny_getItem_list_slice ht.isList hs pl pu .none (by simp) ?_ (by rw[aE]<;>lia);rw[xE,<-hlen];refine⟨.ref s.heap.objs.size,_,I.laid (t':=s.toks) (o:=.lst<|FP xs lo hi) (λb ob q=>Heap.get?_push_of_some _ q) (ar _) ?_,rfl,q _<|I.SA.fresh<|ar _⟩;exact⟨ao (Cm xs lo hi) hz,_,0,(r.drop<|HT.UI xs.length 0 lo).take<|HT.UI xs.length xs.length hi-HT.UI xs.length 0 lo,Heap.get?_push_size _ rfl⟩
def sN:gS X (.builtin "len") (λxs H Q=>∃p ys,xs=[.ref p]/\(Ts X.K H p ys\/Uu X.K H p ys)/\Q (.int ys.length) H):=by
 intro pins s σ H xs us Q I r h;obtain⟨p,ys,rfl,hq,q⟩:=h;obtain⟨u,rfl,rx⟩:=kT r;cases rx;have hn:=oH;rcases hq with hq |hq;·obtain⟨its,r',pl,hz⟩:=I.list hq;have hlen:=r'.length;exact Calls.call_len_list pl.isList (by simp only[aE]<;>lia) ⟨.int ys.length,H,I.tok _,⟨s.toks+1,by rw[aE,hlen]⟩,q⟩
 ·obtain⟨its,r',pl,hz⟩:=I.tuple hq;have hlen:=r'.length;exact len_tuple pl (by simp only[aE]<;>lia) ⟨.int ys.length,H,I.tok _,⟨s.toks+1,by rw[aE,hlen]⟩,q⟩
def AW:gS X (.builtin "len") (λxs H Q=>∃z,xs=[.str z]/\z.length<=sizeLine/\Q (.int z.length) H):=by intro pins s σ H xs us Q I r h;obtain⟨z,rfl,hz,q⟩:=h;obtain⟨u,rfl,t,rfl⟩:=kT r;have hn:=oH;exact len_str (by lia) ⟨.int z.length,H,I.tok _,⟨_,rfl⟩,q⟩
def AV:gS X (.type "list") (λxs H Q=>∃p ys,xs=[.ref p]/\(Ts X.K H p ys\/Uu X.K H p ys)/\∀l,H l=none->Q (.ref l) (c6 H l<|.lst ys)):=by
 intro pins s σ H xs us Q I r h;obtain⟨p,ys,rfl,hq,q⟩:=h;obtain⟨u,rfl,rx⟩:=kT r;cases rx;have fin:∀(its:ir),Vals ys its->ys.length<=sizeLine->∀(h':Heap)(c':Nat),(∀b o',s.heap.get? b=some o'->h'.get? b=some o')->h'.get? s.heap.objs.size=some {cls:=.type "list",dict:=none,data:=.seq its.toArray c',slots:=#[]}->EP X pins σ Q (.ref s.heap.objs.size) {s with heap:=h'}:=λits r' hz h' c' kp e=>⟨.ref s.heap.objs.size,_,I.laid (t':=s.toks) kp (ar _) (show Su X.prog X.w _ h' _ (.lst ys)from⟨hz,its,c',r',e⟩),rfl,q _<|I.SA.fresh<|ar _⟩;rcases hq with hq |hq;·obtain⟨its,r',pl,hz⟩:=I.list hq;have hlen:=r'.length;obtain⟨o,ho,hc,n,hd⟩:=pl.isList;exact call_list_seq p (.inl rfl) ho hc hd (λh' c' kp e=>fin its r' hz h' c' kp e)<|by simp only[aE]<;>lia
 ·obtain⟨its,r',pl,hz⟩:=I.tuple hq;have hlen:=r'.length;obtain⟨o,ho,hc,n,hd⟩:=pl;exact call_list_seq p (.inr rfl) ho hc hd (λh' c' kp e=>fin its r' hz h' c' kp e)<|by simp only[aE]<;>lia
def xV:gS X (.type "tuple") (λxs H Q=>∃p ys,xs=[.ref p]/\((Ts X.K H p ys/\∀l,H l=none->Q (.ref l) (c6 H l<|.tup ys))\/(Uu X.K H p ys/\Q (.ref p) H))):=by
 intro pins s σ H xs us Q I r h;obtain⟨p,ys,rfl,h⟩:=h;obtain⟨u,rfl,rx⟩:=kT r;cases rx;rcases h with⟨hq,q⟩ |⟨hq,q⟩;·obtain⟨its,r',pl,hz⟩:=I.list hq;have hlen:=r'.length;refine call_tuple_list pl.isList (λh' kp=>?_) (by simp only[aE]<;>lia);have I1:Inv X pins σ H {s with heap:=h'}:=I.kept (t':=s.toks) kp;have I2:Inv X pins σ (c6 H h'.objs.size<|.tup ys) {s with heap:=h'.push {cls:=.type "tuple",data:=.seq its.toArray}}:=I1.laid (t':=s.toks) (λb o e=>Heap.get?_push_of_some _ e) (ar _) (show Su X.prog X.w _ _ _ (.tup ys)from⟨hz,its,r',IsTup.new _ _⟩);exact⟨.ref h'.objs.size,_,I2,rfl,q _<|I1.SA.fresh<|ar _⟩
 ·obtain⟨its,r',pl,hz⟩:=I.tuple hq;exact call_tuple_same pl ⟨.ref p,H,I,rfl,q⟩
def NW(K:ce)(T:String)(x:V)(H:Hp):Prop:=match x with
 |.str _=>T="str"|.int _=>T="int"
 |.ref p=>(T="list"/\∃xs,Ts K H p xs)\/(T="tuple"/\∃o,K.lookup p=some o/\o.cls=.type "tuple"/\o.dict=none)\/(T="dict"/\((∃kvs,H p=some (.dK kvs))\/∃kvs,H p=some (.dT kvs)))\/(T="set"/\∃S n,H p=some (.set S n))|_=>False
def C1(I:Inv X pins σ H s)(r:RelV x v)(ty:NW X.K T x H):s.TypeIs v T/\∀a,v=.ref a->∃ob,s.heap.get? a=some ob/\ob.dict=none:=by
 cases x with
 |str z=>obtain⟨t,rfl⟩:=r;cases(show T="str"from ty);exact⟨typeIs_str s z t,λ_ e=>nomatch e⟩
 |int i=>obtain⟨t,rfl⟩:=r;cases(show T="int"from ty);exact⟨typeIs_int s i t,λ_ e=>nomatch e⟩
 |ref p=>
  cases r;rcases ty with⟨rfl,xs,hq⟩ |⟨rfl,o,hk,hc,hd⟩ |⟨rfl,hk⟩ |⟨rfl,S,n,hk⟩;·obtain⟨its,_,pl,_⟩:=I.list hq;refine⟨pl.isList.typeIs,λa e=>?_⟩;cases e;obtain⟨o,n,e,c,hd,_⟩:=pl;exact⟨o,e,hd⟩
  ·refine⟨⟨o,I.UP p o hk,hc⟩,λa e=>?_⟩;cases e;exact⟨o,I.UP _ o hk,hd⟩
  ·have z:∃o,s.heap.get? p=some o/\o.ExactDict:=by
    rcases hk with⟨kvs,hk⟩ |⟨kvs,hk⟩;·obtain⟨_,_,_,_,o,_,_,e,ex,_⟩:=I.SA p _ hk;exact⟨o,e,ex⟩
    ·obtain⟨_,_,_,_,o,_,_,e,ex,_⟩:=I.SA p _ hk;exact⟨o,e,ex⟩
   obtain⟨o,e,ex⟩:=z;refine⟨⟨o,e,ex.1⟩,λa e2=>?_⟩;cases e2;exact⟨o,e,ex.2.1⟩
  ·obtain⟨o,_,_,_,e,ex,_⟩:=I.SA p _ hk;refine⟨⟨o,e,ex.1⟩,λa e2=>?_⟩;cases e2;exact⟨o,e,ex.2.1⟩
 |_=>exact False.elim ty
def QC(K:ce)(T:String)(r:V->dw->Hp->VK->Prop)(to:TE):TE:=λσ H Q=>to σ H λx H1=>NW K T x H1/\r x [] H1 Q
def RQ(K:ce)(T:String)(r:V->dw->Hp->VK->Prop)(to:TE)(t:TA):TE:=λσ H Q=>to σ H λx H1=>NW K T x H1/\t σ H1 λxs H2=>r x xs H2 Q
variable {id:String}{r:V->dw->Hp->VK->Prop}
def An{apos:Pos}{Sr:Pos}(pa:PlainAttrs T)(slot:Slot T name id)(hty:typeOf (.builtin id)=pure (.type "method_descriptor"))(hm:Rk X id r)(ho:PE X o to)(UX:attributeBase o name X.env (eval o X.env)=eval o X.env:=by rfl)(S4:(apos.endLine==Sr.line)=true:=by rfl):PE X (.Call (.Attribute o name apos) [] [] Sr) (QC X.K T r to):=by intro pins s σ H Q I h;refine wpAny_Call_method0_late UX S4 (dW (ho pins s σ H _ I h) λv s1 ⟨x,H1,I1,r1,ty,q1⟩=>?_);obtain⟨h1,h2⟩:=C1 I1 r1 ty;exact⟨T,id,pa,slot,hty,h1,h2,n9 rfl<|PySem.evalArgs_none<|hm pins s1 σ H1 x [] v [] Q I1 r1 .nil q1⟩
def Hm{apos:Pos}(pa:PlainAttrs T)(slot:Slot T name id)(hty:typeOf (.builtin id)=pure (.type "method_descriptor"))(hm:Rk X id r)(ho:PE X o to)(ha:PA X (e::es) t)(UX:attributeBase o name X.env (eval o X.env)=eval o X.env:=by rfl)(Vl:((backTo Sr<|starEach (e::es) X.env).all (λx=>!x.1)&&(backToKw Sr<|keywordEach [] X.env).all (λx=>x.1.isSome)&&decide ((e::es).length+([]:List Keyword).length+(if([]:List Keyword).isEmpty then 0 else 1)<30))=true:=by rfl)(S4:(apos.endLine==Sr.line)=true:=by rfl)(hs:Fe e es X.env:=by rfl)(V8:vv Sr es X.env:=by rfl):PE X (.Call (.Attribute o name apos) (e::es) [] Sr) (RQ X.K T r to t):=by intro pins s σ H Q I h;refine CI UX Vl S4 rfl (dW (ho pins s σ H _ I h) λv s1 ⟨x,H1,I1,r1,ty,q1⟩=>?_);obtain⟨h1,h2⟩:=C1 I1 r1 ty;refine⟨T,id,pa,slot,hty,h1,h2,?_⟩;have hA:=ha Sr pins s1 σ H1 _ I1 q1;rw[hs]at hA ⊢;refine n9 (by show(false||(backTo Sr<|starEach es X.env).any (·.1))=false;rw[V8]<;>rfl)<|rE ?_;exact dW hA λus s2 ⟨vs,H2,I2,r2,q2⟩=>hm pins s2 σ H2 x vs v us Q I2 r1 r2 q2
end
def Rl(X:Cx)(id:String)(r:V->dw->Hp->VK->Prop):Prop:=∀(pins:fR)(s:Shared)(σ:St)(H:Hp)(x:V)(xs:dw)(v:Value)(us:ir)(Q:VK),Inv X pins σ H s->RelV x v->Vals xs us->r x xs H Q->dR X (call (.builtin id)<|v::us) (EP X pins σ Q) X.xe s
def Vals.one:∀{x:V}{us:ir},Vals [x] us->∃u,us=[u]/\RelV x u|_,_,.cons r .nil=>⟨_,rfl,r⟩
def Vals.zero:∀{us:ir},Vals [] us->us=[]|_,.nil=>rfl
def Vals.dropLast(h:Vals xs us):Vals xs.dropLast us.dropLast:=by induction h with|nil=>exact .nil|cons r t ih=>cases t with|nil=>exact .nil|cons q t'=>exact .cons r ih
def Vals.rep(h:Vals xs us):∀k:Nat,Vals (List.replicate k xs).flatten (List.replicate k us).flatten|0=>.nil|k+1=>by rw[bc,bc,cY,cY];exact Vals.append h<|Vals.rep h k
def DB{α:Type}(l:List α):l.eraseIdx (l.length-1)=l.dropLast:=by
 induction l with
 |nil=>rfl
 |cons a r ih=>
  cases r with
  |nil=>rfl
  |cons b r=>
   have e:(a::b::r).length-1=((b::r).length-1)+1:=by have h1:(a::b::r).length=r.length+2:=rfl;have h2:(b::r).length=r.length+1:=rfl;lia
   rw[e,List.eraseIdx_cons_succ,ih];all_goals rfl
def y9(its:ir):∀(k:Nat)(acc:ir),List.foldl (λx1 x2=>x1++x2) acc.toArray (List.replicate k its.toArray)=(acc++(List.replicate k its).flatten).toArray
 |0,acc=>by simp
 |k+1,acc=>by
  have e:acc.toArray++its.toArray=(acc++its).toArray:=by simp
  have e2:(acc++its)++(List.replicate k its).flatten=acc++(List.replicate (k+1) its).flatten:=by rw[bc,cY,bf]
  rw[<-e2,<-y9 its k (acc++its),<-e,bc,xA]
def Inv.Yk{its its':ir}{t':Nat}{l:Addr}{f:Array Value->Array Value}(I:Inv X pins σ H s)(hH:H l=some (.lst xs))(e:s.heap.get? l=some {cls:=.type "list",data:=.seq its.toArray n})(hf:f its.toArray=its'.toArray)(hv:Vals ys its')(hz:ys.length<=sizeLine):Inv X pins σ (c6 H l<|.lst ys) {s with heap:=s.heap.update l<|Obj.mapSeq f,toks:=t'}:=by have q:=PySem.IsL.update e f;rw[hf]at q;refine I.write (x:=l) (e:=l) (by rw[hH];exact trivial) (.inl rfl) (λb' u hb hu=>(Heap.get?_update_other s.heap (Obj.mapSeq f)<|cV hb).trans hu) ⟨_,q⟩ ?_;exact⟨hz,its',_,hv,q⟩
def Inv.Yl{t':Nat}(I:Inv X pins σ H s)(hv:Vals ys its)(hz:ys.length<=sizeLine):Inv X pins σ (c6 H s.heap.objs.size<|.lst ys) {s with heap:=s.heap.push {cls:=.type "list",data:=.seq its.toArray},toks:=t'}:=I.laid (λ_ _ q=>Heap.get?_push_of_some _ q) (ar _) ⟨hz,its,0,hv,Heap.get?_push_size _ rfl⟩
def Inv.fresh(I:Inv X pins σ H s):H s.heap.objs.size=none:=I.SA.fresh<|ar _
def Inv.V5{l:Addr}(I:Inv X pins σ H s)(hH:H l=some (.lst xs)):xs.length<=sizeLine/\∃(its:ir)(n:Nat),Vals xs its/\xs.length=its.length/\s.heap.get? l=some {cls:=.type "list",data:=.seq its.toArray n}:=by obtain⟨z,its,n,r,e⟩:=I.SA l _ hH;exact⟨z,its,n,r,r.length,e⟩
def BX{n:Nat}(h:n<=sizeLine):Builtin.List.listTooLong n=false:=by unfold Builtin.List.listTooLong;exact ak<|by lia
def JD:V->dw->Hp->VK->Prop:=λx vs H Q=>∃l xs y,x=.ref l/\vs=[y]/\H l=some (.lst xs)/\xs.length<sizeLine/\Q .Sy (c6 H l<|.lst<|xs++[y])
def pO:Rl X "list.append" JD:=by intro pins s σ H x vs v us Q I rx rv h;obtain⟨l,xs,y,rfl,rfl,hH,hz,q⟩:=h;cases rx;obtain⟨u,rfl,ru⟩:=rv.one;obtain⟨z,its,n,r,hl,e⟩:=I.V5 hH;refine KQ F.slot_list_append ⟨_,e,rfl⟩ F.entry_list_append (F.args_list_append_2 _ _) (PySem.list_append l its.toArray n u<|by rw[aE];lia) ⟨e,?_⟩;refine⟨.Sy,_,I.Yk (its':=its++[u]) hH e (by simp) (r.append<|.cons ru .nil) ?_,rfl,q⟩;rw[aq,fL];lia
def JC:V->dw->Hp->VK->Prop:=λx vs H Q=>∃l b xs zs,x=.ref l/\vs=[.ref b]/\H l=some (.lst xs)/\H b=some (.lst zs)/\xs.length+zs.length<=sizeLine/\Q .Sy (c6 H l<|.lst<|xs++zs)
def N0:Rl X "list.extend" JC:=by
 intro pins s σ H x vs v us Q I rx rv h;obtain⟨l,b,xs,zs,rfl,rfl,hH,hB,hz,q⟩:=h;cases rx;obtain⟨u,rfl,ru⟩:=rv.one;cases ru;obtain⟨z,its,n,r,hl,e⟩:=I.V5 hH;obtain⟨z2,V6,n2,r2,hl2,e2⟩:=I.V5 hB;have hsz:its.toArray.size+V6.toArray.size<=sizeLine:=by rw[aE,aE];lia
 have WY:¬(!its.toArray.isEmpty&&Builtin.List.listTooLong (its.toArray.size+V6.toArray.size))=true:=by rw[BX hsz,Bw];exact ay
 refine KQ F.slot_list_extend ⟨_,e,rfl⟩ F.entry_list_extend (F.args_list_extend_2 _ _) (AutoSeq1.list_extend_list_list_0 l its.toArray n b V6.toArray n2 WY (by rw[aE];lia)<|by lia) ⟨e,e2,?_⟩;refine⟨.Sy,_,I.Yk (its':=its++V6) hH e (by simp) (r.append r2) ?_,rfl,q⟩;rw[aq];lia
def QI:V->dw->Hp->VK->Prop:=λx vs H Q=>∃l xs y,x=.ref l/\vs=[]/\H l=some (.lst xs)/\xs[xs.length-1]?=some y/\Q y (c6 H l<|.lst xs.dropLast)
def Dj:Rl X "list.pop" QI:=by
 intro pins s σ H x vs v us Q I rx rv h;obtain⟨l,xs,y,rfl,rfl,hH,hy,q⟩:=h;cases rx;have hus:=rv.zero;subst hus;obtain⟨z,its,n,r,hl,e⟩:=I.V5 hH;obtain⟨u,hu,ru⟩:=r.get hy;have hy':its.toArray[its.toArray.size-1]?=some u:=by show its.toArray[its.length-1]?=some u;rw[<-Array.getElem?_toList,<-hl];exact hu
 refine KQ F.slot_list_pop ⟨_,e,rfl⟩ F.entry_list_pop (F.args_list_pop_1 _) (MeetsSeq.list_pop_last l its.toArray n u hy'<|by rw[aE];lia) ⟨e,?_⟩;refine⟨y,_,I.Yk (its':=its.dropLast) hH e ?_ r.dropLast ?_,ru,q⟩;·show its.toArray.eraseIdxIfInBounds (its.toArray.size-1)=its.dropLast.toArray;rw[aE,List.eraseIdxIfInBounds_toArray,DB]
 ·rw[bF];lia
def QL:R2:=λx y H Q=>∃l b xs zs,x=.ref l/\y=.ref b/\H l=some (.lst xs)/\H b=some (.lst zs)/\xs.length+zs.length<=sizeLine/\∀p,H p=none->Q (.ref p) (c6 H p<|.lst<|xs++zs)
def MI:mK X (binaryOp .Add) QL:=by
 intro pins s σ H x y v u Q I rx ry h;obtain⟨l,b,xs,zs,rfl,rfl,hH,hB,hz,q⟩:=h;cases rx;cases ry;obtain⟨z,its,n,r,hl,e⟩:=I.V5 hH;obtain⟨z2,V6,n2,r2,hl2,e2⟩:=I.V5 hB;refine PySem.P.add_list e e2 ?_ (by rw[aE,aE];lia);have ea:its.toArray++V6.toArray=(its++V6).toArray:=by simp
 rw[ea];exact⟨.ref _,_,I.Yl (t':=s.toks) (r.append r2)<|by rw[aq];lia,rfl,q _ I.fresh⟩
def QH:R2:=λx y H Q=>∃l k xs,x=.ref l/\y=.int k/\H l=some (.lst xs)/\-(2 ^ 63)<=k/\k<2 ^ 63/\xs.length*k.toNat<=sizeLine/\∀p,H p=none->Q (.ref p) (c6 H p<|.lst (List.replicate k.toNat xs).flatten)
def J3{α:Type}(xs:List α)(k:Nat):(List.replicate k xs).flatten.length=k*xs.length:=by induction k with|zero=>simp|succ k ih=>rw[bc,cY,aq,ih,mh,Nat.add_comm]
def MF:mK X (binaryOp .Mult) QH:=by
 intro pins s σ H x y v u Q I rx ry h;obtain⟨l,k,xs,rfl,rfl,hH,h1,h2,hz,q⟩:=h;cases rx;obtain⟨t,rfl⟩:=ry;obtain⟨z,its,n,r,hl,e⟩:=I.V5 hH;have hlen:its.toArray.size*k.toNat<=sizeLine:=by rw[aE,<-hl];exact hz
 have zDA:¬its.toArray.size*k.toNat>(2 ^ 63-1) / 8:=by
  have:(sizeLine:Nat)<=(2 ^ 63-1) / 8:=by decide
  lia
 have XB:¬(!Builtin.List.listFitsIndex k)=true:=by rw[fitsIndex_both h1 h2];exact ay
 have WY:¬Builtin.List.listTooLong (its.toArray.size*k.toNat)=true:=by rw[BX hlen];exact ay
 have Wt:List.foldl (λx1 x2=>x1++x2) #[] (List.replicate (if its.toArray.isEmpty=true then 0 else k.toNat) its.toArray)=(List.replicate k.toNat its).flatten.toArray:=by
  have f0:∀m:Nat,List.foldl (λx1 x2=>x1++x2) #[] (List.replicate m its.toArray)=(List.replicate m its).flatten.toArray:=λm=>by have:=y9 its m [];rw[List.nil_append]at this;exact this
  rw[f0];cases its with|nil=>simp|cons a r'=>rw[av<|by simp]
 refine wpAny_binaryOp_repeat_ref (T:="list") (U:="int") (by decide) ⟨_,e,rfl⟩ (λs'=>typeIs_int s' k t) noFill_list_mul F.fills_int_mul F.slot_int_rmul repeat_list F.slot_int_index.lookup<|KQ F.slot_int_rmul (typeIs_int s k t) F.entry_int_rmul (F.args_int_rmul_2 _ _) (int___rmul___int_list k t l its.toArray n) ⟨e,rfl,⟨_,e,rfl⟩,KQ F.slot_list_mul ⟨_,e,rfl⟩ F.entry_list_mul (F.args_list_mul_2 _ _) (AutoListH.list___mul___list_int_3 l its.toArray n k t XB zDA WY) ⟨e,?_⟩⟩;rw[Wt];exact⟨.ref _,_,I.Yl (t':=s.toks) (r.rep k.toNat)<|by rw[J3,Rw];exact hz,rfl,q _ I.fresh⟩
end L2
namespace Att
open PySem PySem.W PySem.Calls PyProof.Rows
variable {K:ce}
def uO{P:Params}:∀(ns:bh)(vs:ir),WellAll P h vs (ns.map WData.int)->IntsAre vs ns:=by
 intro ns;induction ns with
 |nil=>intro vs w;rw[Gi]at w;cases w;exact .nil
 |cons n ns ih=>intro vs w;rw[aP]at w;cases w with|cons a b=>cases a;exact .cons _ _<|ih _ b
def Fp{l:OpenLaw}(hn:l.most=some n){P:Params}{args:List WData}(Xz:l.row.toRowW.claim.pre args=true)(hwl:WellAll P h vals args):∃a vs ns,vals=[Value.ref a]/\args=[WData.list<|ns.map WData.int]/\h.get? a=some {cls:=.type "list",data:=.seq vs.toArray}/\IntsAre vs ns/\ns.length<=n:=by
 have hsh:WShape.hasAll [] args [.list .int]=true:=(pre_splitW Xz).1;have hc:l.pre.holds [] {args:=args}=true:=(pre_splitW Xz).2;obtain⟨d,r,rfl,h1,h2⟩:=hasAllW_cons hsh;obtain rfl:=hasAllW_nil h2;obtain⟨xs,rfl,h3⟩:=hasW_list h1;obtain⟨ns,rfl⟩:=items_int h3;have hlen:ns.length<=n:=by
  unfold OpenLaw.pre at hc;have h4:(WTm.not<|.lt (.lit<|.int (n:Int))<|.len<|.arg 0).holds [] {args:=[.list<|ns.map .int]}=true:=by have h4:=(holds_andW hc).1;rw[hn]at h4;exact h4
  have h5:=condW_of h4<|w_not<|w_lt w_lit<|w_len_list<|w_arg rfl;rw[aj]at h5;refine Nat.le_of_not_lt λq=>?_;have q':(n:Int)<((ns.length:Nat):Int):=by lia
  first
   |(rw[ap q']at h5;exact absurd h5<|by decide)|(simp at h5;lia)
 cases hwl with|cons w1 w2=>cases w2;cases w1 with|list ho XD=>exact⟨_,_,ns,rfl,rfl,ho,uO ns _ XD,hlen⟩
def Fv(l:OpenLaw)(args:List WData):l.row.toRowW.claim.post args (.bool true) args=true:=postW_of (r:=l.row.toRowW) (X:=(true==true)) (show WShape.has [] (.bool true) .bool=true by first |rfl |decide |simp[WShape.has,WShape.arms,WShape.armsAll]) (show(WTm.eq .res<|.lit<|.bool true).value [] {args:=args,res:=some<|.bool true,after:=args}=some (.bool<|true==true)from w_eq_bool (w_res rfl) w_lit) rfl
def VV{l:OpenLaw}{XP:(Str->Option Value)->Heap->Prop}{YP:World->Heap->Prop}{d:DefRec}(hn:l.most=some n)(ZO:d.params.defaults=[])(call:∀(w:World)(s₀ s₁:Shared)(mg mb:rG)(fa:Addr)(o:Obj)(pm cd doc:Value)(a:Addr)(vs:ir)(ns:bh),Ground q loose [] XP w s₀ mg mb s₁.heap->YP w s₁.heap->s₁.heap.get? fa=some o->o.data=.func (docDef d.name d.params d.body d.scope pm cd doc)->s₁.heap.CodeRec cd d.name->mg d.name=some (.ref fa)->s₁.heap.get? a=some {cls:=.type "list",data:=.seq vs.toArray}->IntsAre vs ns->ns.length<=n->s₁.gens=#[]->codeAny (model l.prog w) callerA (.call (.ref fa) ⟨[.ref a],[]⟩) (λr s'=>r=.ok (.ret<|.bool true)/\OldK s₁.heap s'.heap/\s'.os=s₁.os/\AllBare s'.gens) s₁):WalkO q loose XP YP l.row.toRowW d [] (λf vs=>PySem.call f vs):=by intro w s₀ s₁ mg mb G Y fa o pm cd doc dV kV ho hd Wu hD hmg hg args vals as Xz zJ9 hrd hwl WC;obtain rfl:dV=.none:=Dflts.none hD ZO;obtain rfl:kV=.none:=Dflts.noKw hD;obtain⟨a,vs,ns,rfl,rfl,Yp,hints,hlen⟩:=Fp hn Xz hwl;refine enter_call (uj (call w s₀ s₁ mg mb fa o pm cd doc a vs ns G Y ho (fd_plain hd) Wu hmg Yp hints hlen hg) λr s' hq=>?_);obtain⟨rfl,h2,h3,h4⟩:=hq;exact⟨.inl ⟨.bool true,.bool true,[],rfl,λ_=>rfl,.bool true,Fv l _,λ_=>⟨List.Pairwise.nil,λ_ hm=>(nomatch hm)⟩⟩,h2,h3,h4⟩
section
variable {K:Frag}
def QU(h:Heap)(L d:Addr):fR:=(List.range h.objs.size).filterMap λa=>if a=L\/a=d then none else(h.get? a).map λo=>(a,o)
end
end Att
namespace L2
open PySem PySem.Spec PyProof.Rows
variable {K:ce}
def ym:∀{vs:ir}{ns:bh},IntsAre vs ns->Vals (ns.map V.int) vs|_,_,.nil=>.nil|_,_,.cons n t h=>.cons ⟨t,rfl⟩<|ym h
def NM(H:Hp):Prop:=∀b,H b=none\/∃o xs,H b=some (.TB o<|.lst xs)
def HF{K:ce}{a:Addr}{x:Str}{s₁:Shared}{vs:ir}(KX:K.In s₁.heap)(hns:s₁.heap.Ns mainGlobals mg)(hb:s₁.heap.Ns builtinsNs mb)(hbb:∀x:Str,x≠"__name__"->mb x=bootBuiltins x)(zCP:s₁.heap.NoLimit)(Wk:s₁.heap.NoSeer)(hg:s₁.gens=#[])(ha:s₁.heap.get? a=some {cls:=.type "list",data:=.seq vs.toArray})(hi:IntsAre vs ns)(hl:ns.length<=sizeLine)(hr:SR k callerA)(F:∀base:Heap,K.In base->base.Ns mainGlobals mg->dQ P w K mg base CX k fa fd [x] sp)(ZP:∀(s:Shared)(u:Value),BindsTo s fd ⟨[u],[]⟩ [(x,u)])(Wj:∀H:Hp,NM H->Ts K H a (ns.map V.int)->sp [.ref a] H (λv _=>v=.bl true) λ_ _ _=>False)(hCX:∀H e s',CX [] H s₁ (λ_ _ _=>False) e s'->False):
  codeAny (model P w) callerA (.call (.ref fa) ⟨[.ref a],[]⟩) (λr s'=>r=.ok (.ret<|.bool true)/\OldK s₁.heap s'.heap/\s'.os=s₁.os/\AllBare s'.gens) s₁:=by
 have rv:=ym hi
 have zB3:=hi.length
 have core:∀H:Hp,NM H->Ts K H a (ns.map V.int)->U5 P w H s₁.heap->(∀b,H b≠none->b=a)->(H a≠none->K.lookup a=none)->
   codeAny (model P w) callerA (.call (.ref fa) ⟨[.ref a],[]⟩) (λr s'=>r=.ok (.ret<|.bool true)/\OldK s₁.heap s'.heap/\s'.os=s₁.os/\AllBare s'.gens) s₁:=by
  intro H hO hS SA hA hK
  have VF:∀{b:Addr}{o:Obj},s₁.heap.get? b=some o->H b=none->(xR s₁.heap H).get? b=some o:=λe n=>HR e n
  have Zk:∀{b:Addr}{o:Obj}{es:Array DictEntry}{ep:Nat},s₁.heap.get? b=some o->o.data=.dict es ep->H b=none:=λ{b o es ep}e d=>by
   cases q:H b with
   |none=>rfl
   |some u=>
    have e':b=a:=hA b<|by rw[q];simp
    subst e'
    rw[ha]at e;cases e
    have d':Data.seq vs.toArray _=Data.dict es ep:=d
    cases d'
  have X1:∀{b:Addr}{m:rG},s₁.heap.Ns b m->(xR s₁.heap H).Ns b m:=λ{b m} ⟨o,es,ep,e,d,r⟩=>⟨o,es,ep,VF e<|Zk e d,d,r⟩
  have hKb:K.In (xR s₁.heap H):=λb o e=>VF (KX b o e) (by
   cases q:H b with
   |none=>rfl
   |some u=>
    have e':b=a:=hA b<|by rw[q];simp
    subst e'
    rw[hK (by rw[q];simp)]at e;cases e)
  have ZQ:(xR s₁.heap H).NoSeer:={
   statics:=let⟨mc,a1,b1⟩:=Wk.statics;⟨mc,X1 a1,b1⟩
   mods:=let⟨mc,a1,b1⟩:=Wk.mods;⟨mc,X1 a1,b1⟩
   imp:=let⟨mc,a1,b1⟩:=Wk.imp;⟨mc,X1 a1,b1⟩
   main:=let⟨Up,bm,ob,a1,b1,c1,d1,e1⟩:=Wk.main;⟨Up,bm,ob,X1 a1,b1,VF c1 (by
    cases q:H bm with
    |none=>rfl
    |some u=>
     have e':bm=a:=hA bm<|by rw[q];simp
     subst e'
     rw[ha]at c1;cases c1
     injection d1 with d2
     exact absurd d2 (by decide)),d1,e1⟩}
  have hM:Mod K mg (xR s₁.heap H):=⟨hKb,X1 hns,⟨mb,X1 hb,hbb⟩,let⟨mc,h1,h2⟩:=zCP;⟨mc,X1 h1,h2⟩,ZQ⟩
  have e0:Wd P w K mg (xR s₁.heap H) callerA [] s₁ H:=⟨rfl,hM,λb o e=>JW e,qg<|FG _ _,trivial,λb hb=>absurd (show b∈([]:List Addr)from hb)<|by simp,SA,.of_eq hg⟩
  refine uj ((F _ hKb<|X1 hns).run callerA [] s₁ H ⟨[.ref a],[]⟩ [.ref a] [.ref a] _ _ hr e0 (ZP s₁<|.ref a) (.cons rfl .nil)<|Wj H hO hS) λr s' h=>?_
  cases r with
  |error e=>exact(hCX H e s' h).elim
  |ok fl=>
   cases fl with
   |next=>exact False.elim h
   |brk=>exact False.elim h
   |cont=>exact False.elim h
   |ret u=>
    obtain⟨v,H',os,bare,un,zCG,r',q⟩:=h
    have q':v=.bl true:=q
    subst q'
    obtain rfl:u=Value.bool true:=r'
    refine⟨rfl,OldK.of_keep λb o e=>?_,os,bare⟩
    cases q:H b with
    |none=>exact un.keep b o e q (by intro z;exact absurd (show b∈([]:List Addr)from z)<|by simp)<|by simp
    |some u=>
     rcases hO b with z |⟨ob,xs,z⟩
     ·rw[q]at z;cases z
     ·have z2:=un.TC b ob _ z
      obtain⟨e1,_⟩:=SA b _ z
      obtain⟨e2,_⟩:=zCG b _ z2
      rw[e]at e1;cases e1
      exact e2
 cases hk:K.lookup a with
 |some o=>
  have e:=KX a o hk
  rw[ha]at e
  cases e
  refine core (λ_=>none) (λ_=>.inl rfl) (.inr ⟨_,vs.toArray,_,hk,rfl,rfl,rfl,by rw[aE,zB3];exact hl,by simpa using rv⟩) (λb u z=>by have z':(none:Option HO)=some u:=z;cases z') (λb z=>absurd rfl z) λz=>absurd rfl z
 |none=>
  refine core (λb=>if b=a then some (.TB {cls:=.type "list",data:=.seq vs.toArray}<|.lst<|ns.map V.int)else none) (λb=>?_) (.inl<|.inr ⟨{cls:=.type "list",data:=.seq vs.toArray},ax rfl⟩) (λb u z=>?_) (λb z=>?_) λ_=>hk
  ·by_cases hb:b=a
   ·exact .inr ⟨_,_,ax hb⟩
   ·exact .inl<|av hb
  ·by_cases hb:b=a
   ·have z':=(ax hb).symm.trans z
    cases z'
    subst hb
    exact⟨ha,by rw[aj];exact hl,vs,_,rv,ha⟩
   ·have z':=(av hb).symm.trans z
    cases z'
  ·by_cases hb:b=a
   ·exact hb
   ·exact absurd (av hb) z
def Xp{q:Program}{l:PySem.W.OpenLaw}{XP:(Str->Option Value)->Heap->Prop}{YP:World->Heap->Prop}{d:DefRec}{K:Params->ce}{CX:World->NR}{sp:World->Sp}(hq:importsNone q=true)(hn:l.most=some n)(hn2:n<=sizeLine)(ZO:d.params.defaults=[])(hr:SR k callerA)(hY:∀(w:World)(h:Heap),YP w h->(K w.params).In h)(F:∀(w:World)(mg:rG)(fa:Addr)(h:Heap),(K w.params).In h->h.Ns mainGlobals mg->mg d.name=some (.ref fa)->∃fd:FuncData,(∀(s:Shared)(u:Value),BindsTo s fd ⟨[u],[]⟩ [(x,u)])/\∀base:Heap,(K w.params).In base->base.Ns mainGlobals mg->dQ l.prog w (K w.params) mg base (CX w) k fa fd [x] (sp w))(Wj:∀(w:World)(H:Hp)(a:Addr)(ns:bh),ns.length<=n->NM H->Ts (K w.params) H a (ns.map V.int)->sp w [.ref a] H (λv _=>v=.bl true) λ_ _ _=>False)(hCX:∀(w:World)(H:Hp)(s:Shared)(e:Value)(s':Shared),CX w [] H s (λ_ _ _=>False) e s'->False):PySem.W.WalkO q loose XP YP l.row.toRowW d [] (λf vs=>PySem.call f vs):=by refine Att.VV hn ZO λw s₀ s₁ mg mb fa o pm cd doc a vs ns G Y ho hd Wu hmg Yp hints hlen hg=>?_;have KX:=hY w _ Y;obtain⟨fd,hb,hF⟩:=F w mg fa _ KX G.T.g hmg;exact HF KX G.T.g G.T.b G.T.builtins G.T.nolimit (G.T.seer hq) hg Yp hints (ao hlen hn2) hr hF hb (λH hO hS=>Wj w H a ns hlen hO hS) λH e s'=>hCX w H s₁ e s'
def iU(s:Stmt):Arguments:=match s with|.FunctionDef _ a _ _ _ _ _ _ _ _=>a|_=>{posonlyargs:=[],args:=[],vararg:=none,kwonlyargs:=[],kw_defaults:=[],kwarg:=none,defaults:=[]}
def aD(s:Stmt):List Stmt:=match s with|.FunctionDef _ _ b _ _ _ _ _ _ _=>b|_=>[]
def ai(s:Stmt):Scope:=match s with|.FunctionDef _ _ _ _ _ _ sc _ _ _=>sc|_=>{kind:=.function,names:=[],isGenerator:=false,isCoroutine:=false}
abbrev ja:NR:=λ_ _ _ _ _ _=>False
abbrev E0:XK:=λ_ _ _=>False
def qx:ia ja X E0:=λ_ _ _ _ _ _ _ h=>h.elim
structure V2(K:ce)(x qual:Str)(st:Stmt)(f:Addr)(fd:FuncData):Prop where
 ex:∃(oc:Value)(od:Option Addr)(kV doc pm:Value)(an:Option Addr)(S8 ct:Value)(Xv:Array (Option Value)),
  fd=PySem.W.fnOf x qual (iU st) (aD st) (ai st) .none kV doc pm an S8 ct/\K.lookup f=some ⟨oc,od,.func fd,Xv⟩/\PySem.W.codeIn K S8 qual=true
 kp:PySem.W.keepIn K (.ref f)=true
def V2.ok{st:Stmt}{sp:Sp}(F:V2 K x qual st f fd)(S:aJ N ps (ai st))(len:∀vs H Q E,sp vs H Q E->vs.length=ps.length)(W0:∀(S8:Value)(A:Around)(outer:List Env)(s:Shared)(H:Hp)(vs:dw)(Q:VK)(E:XK),SR k (A.deeper<|envOfC qual (ai st) s.heap.objs.size f S8)->sp vs H Q E->∃t,Wc (mI ja P w K mg base N qual (ai st) f S8 A outer s H E).U7 (aD st) t/\t {nx:=λ_ H'=>Q .Sy H',rt:=Q} (start N vs) H):dQ P w K mg base ja (k+1) f fd ps sp:=by obtain⟨oc,od,kV,doc,pm,an,S8,ct,Xv,rfl,lk,Wu⟩:=F.ex;refine HX lk Wu S len λA outer s H vs Q E hr Wj=>?_;obtain⟨t,h,q⟩:=W0 S8 A outer s H vs Q E hr Wj;exact⟨t,h.U7,q⟩
def V2.binds{st:Stmt}{ps:cH}(F:V2 K x qual st f fd)(h:∀(kV doc pm:Value)(an:Option Addr)(S8 ct:Value)(us:ir),us.length=ps.length->bindArgs (PySem.W.fnOf x qual (iU st) (aD st) (ai st) .none kV doc pm an S8 ct) ⟨us,[]⟩=pure (ps.zip us)):Binds K fd ps []:=by obtain⟨oc,od,kV,doc,pm,an,S8,ct,Xv,rfl,lk,Wu⟩:=F.ex;exact .all<|h kV doc pm an S8 ct
def HU{x qual:Str}{st:Stmt}{f:Addr}{an:Option Addr}{kV doc pm S8 ct:Value}(l:K.lookup f=some ⟨oc,od,.func<|PySem.W.fnOf x qual (iU st) (aD st) (ai st) .none kV doc pm an S8 ct,Xv⟩)(c:PySem.W.codeIn K S8 qual=true)(k:PySem.W.keepIn K (.ref f)=true):V2 K x qual st f (PySem.W.fnOf x qual (iU st) (aD st) (ai st) .none kV doc pm an S8 ct):=⟨⟨oc,od,kV,doc,pm,an,S8,ct,Xv,rfl,l,c⟩,k⟩
def Sj(H H':Hp):Prop:=∀b o,H b=some o->H' b=some o
def Sj.refl(H:Hp):Sj H H:=λ_ _ h=>h
def Sj.trans(a:Sj H H1)(b:Sj H1 H2):Sj H H2:=λc o h=>b c o<|a c o h
def Sj.free{l:Addr}(e:Sj H H')(h:H' l=Option.none):H l=Option.none:=by cases q:H l with|none=>rfl|some o=>rw[e l o q]at h;cases h
def Sj.seq{K:ce}(e:Sj H H')(h:Ts K H a xs):Ts K H' a xs:=by
 rcases h with(h |⟨o,h⟩) |h;·exact .inl<|.inl<|e _ _ h
 ·exact .inl<|.inr ⟨o,e _ _ h⟩
 ·exact .inr h
end L2
namespace L2.EV
open PySem PySem.Spec PyProof.Rows
variable {K:ce}
inductive D where
 |Sy |bl (b:Bool) |int (i:Int) |str (x:Str) |tup (xs:List D) |lst (xs:List D) |Vg (ns:bh) |exc (C:Addr) |VJ (C ea:Addr) |So (kvs:List (bh×Int)) |adr (p:Addr) |TL (q:Addr)
abbrev aQ:=List D
def oN(a C:Addr):Heap->Prop:=λh=>∃ob vs,h.get? a=some ob/\ob.cls=.ref C/\ob.data=.fields vs/\vs[2]?=some .none
def O7(o:Obj)(xs:List (bh×Addr×Int)):Prop:=o.ExactDict/\∃(es:Array DictEntry)(ep:Nat)(ys:List (bh×Addr×Value)),o.data=.dict es ep/\(∀(P:Program)(w:World),es.toList=ys.map (entryOfKey<|tupleKind<|intKind P w))/\Paired (λ(x:bh×Addr×Int)(y:bh×Addr×Value)=>y.1=x.1/\y.2.1=x.2.1/\RelV (.int x.2.2) y.2.2) xs ys/\(ys.map (·.1)).Nodup
def ei(a:Addr)(xs:List (bh×Addr×Int)):Heap->Prop:=λh=>xs.length<=sizeLine/\(a==sysModules)=false/\∃o,h.get? a=some o/\O7 o xs
def TU(F:Hp)(kvs:List (bh×Int))(xs:List (bh×Addr×Int)):Prop:=kvs=xs.map (λx=>(x.1,x.2.2))/\∀x∈xs,F x.2.1=some (.tup<|x.1.map V.int)
def TU.mono{kvs:List (bh×Int)}{xs:List (bh×Addr×Int)}(h:Sj F F')(r:TU F kvs xs):TU F' kvs xs:=⟨r.1,λx hx=>h _ _<|r.2 x hx⟩
mutual
inductive Rep(K:ce)(F:Hp):V->D->Prop where
 |Sy:Rep K F .Sy .Sy
 |bl (b:Bool):Rep K F (.bl b) (.bl b)
 |int (i:Int):Rep K F (.int i) (.int i)
 |str (x:Str):Rep K F (.str x) (.str x)
 |tup {a:Addr} {vs:dw} {ds:aQ}:F a=some (.tup vs)->Sh K F vs ds->Rep K F (.ref a) (.tup ds)
 |lst {a:Addr} {vs:dw} {ds:aQ}:F a=some (.lst vs)->Sh K F vs ds->Rep K F (.ref a) (.lst ds)
 |Vg {a:Addr} {ns:bh}:Ts K F a (ns.map V.int)->Rep K F (.ref a) (.Vg ns)
 |exc {a C:Addr} {ob:Obj}:F a=some (.TB ob<|.ext<|oN a C)->Rep K F (.ref a) (.exc C)
 |VJ {a C:Addr} {ob:Obj}:F a=some (.TB ob<|.ext<|oN a C)->Rep K F (.ref a) (.VJ C a)
 |So {a:Addr} {ob:Obj} {kvs:List (bh×Int)} {xs:List (bh×Addr×Int)}:F a=some (.TB ob<|.ext<|ei a xs)->TU F kvs xs->Rep K F (.ref a) (.So kvs)
 |adr (a:Addr):Rep K F (.ref a) (.adr a)
 |TL {a q:Addr}:F a=some (.dK [(Sum.inr "xs",.ref q)])->Rep K F (.ref a) (.TL q)
inductive Sh(K:ce)(F:Hp):dw->aQ->Prop where
 |nil:Sh K F [] []
 |cons {v:V} {d:D} {vs:dw} {ds:aQ}:Rep K F v d->Sh K F vs ds->Sh K F (v::vs) (d::ds)
end
mutual
def Rep.mono(h:Sj F F'):∀{v:V}{d:D},Rep K F v d->Rep K F' v d
 |_,_,.Sy=>.Sy|_,_,.bl b=>.bl b
 |_,_,.int i=>.int i|_,_,.str x=>.str x
 |_,_,.tup e r=>.tup (h _ _ e) (Sh.mono h r)|_,_,.lst e r=>.lst (h _ _ e)<|Sh.mono h r
 |_,_,.Vg e=>.Vg (h.seq e)|_,_,.exc e=>.exc<|h _ _ e
 |_,_,.VJ e=>.VJ (h _ _ e)|_,_,.So e r=>.So (h _ _ e)<|r.mono h
 |_,_,.adr a=>.adr a|_,_,.TL e=>.TL<|h _ _ e
def Sh.mono(h:Sj F F'):∀{vs:dw}{ds:aQ},Sh K F vs ds->Sh K F' vs ds|_,_,.nil=>.nil|_,_,.cons r t=>.cons (Rep.mono h r)<|Sh.mono h t
end
def Sh.length:∀{vs:dw}{ds:aQ},Sh K F vs ds->vs.length=ds.length|_,_,.nil=>rfl|_,_,.cons _ t=>aV Nat.succ<|Sh.length t
def Sh.get:∀{vs:dw}{ds:aQ}{i:Nat}{d:D},Sh K F vs ds->ds[i]?=some d->∃v,vs[i]?=some v/\Rep K F v d
 |_,_,_,_,.nil,e=>by simp at e|_,_,0,_,.cons r _,e=>by simp at e;subst e;exact⟨_,rfl,r⟩
 |_,_,i+1,d,.cons _ t,e=>by obtain⟨v,h1,h2⟩:=Sh.get (i:=i) (d:=d) t (by simpa using e);exact⟨v,by simpa using h1,h2⟩
def Sh.append:∀{vs us:dw}{ds es:aQ},Sh K F vs ds->Sh K F us es->Sh K F (vs++us) (ds++es)|_,_,_,_,.nil,s=>s|_,_,_,_,.cons r t,s=>.cons r<|Sh.append t s
def Sh.take:∀{vs:dw}{ds:aQ}(n:Nat),Sh K F vs ds->Sh K F (vs.take n) (ds.take n)
 |_,_,0,_=>.nil|_,_,_+1,.nil=>.nil
 |_,_,n+1,.cons r t=>.cons r<|Sh.take n t
def Sh.drop:∀{vs:dw}{ds:aQ}(n:Nat),Sh K F vs ds->Sh K F (vs.drop n) (ds.drop n)
 |_,_,0,r=>r|_,_,_+1,.nil=>.nil
 |_,_,n+1,.cons _ t=>Sh.drop n t
def Sh.set(r:Rep K F v d):∀{vs:dw}{ds:aQ}(i:Nat),Sh K F vs ds->Sh K F (vs.set i v) (ds.set i d)
 |_,_,_,.nil=>.nil|_,_,0,.cons _ t=>.cons r t
 |_,_,i+1,.cons q t=>.cons q<|Sh.set r i t
def Sh.dropLast{ds:aQ}(h:Sh K F vs ds):Sh K F vs.dropLast ds.dropLast:=by rw[RG,RG,h.length];exact h.take _
def Sh.rep{ds:aQ}(h:Sh K F vs ds):∀k:Nat,Sh K F (List.replicate k vs).flatten (List.replicate k ds).flatten|0=>.nil|k+1=>by rw[bc,bc,cY,cY];exact Sh.append h<|Sh.rep h k
def Sh.ints:∀ns:bh,Sh K F (ns.map V.int) (ns.map D.int)|[]=>.nil|n::ns=>.cons (.int n)<|Sh.ints ns
def Sh.UR:∀{ns:bh}{vs:dw},Sh K F vs (ns.map D.int)->vs=ns.map V.int
 |[],_,h=>by cases h;rfl
 |n::ns,_,h=>by cases h with|cons r t=>cases r;rw[aP,Sh.UR t]
structure B0 where
 F:Hp
 H:Hp
structure Ext(B:B0)(F H:Hp):Prop where
 sub:Sj F H
 sh:Sj B.H H
 sf:Sj B.F F
 nw:∀a,F a≠none->B.F a≠none\/B.H a=none
inductive Sl where
 |un |val (d:D) |own (xs:aQ) |TQ (kvs:List (bh×Int))
structure DOk(B:B0)(F H:Hp)(σ:St)(ρ:List Sl):Prop where
 UC:∀(i:Nat)kvs,ρ[i]?=some (.TQ kvs)->∃a es,σ[i]?=some (some<|.ref a)/\H a=some (.ext<|ei a es)/\F a=none/\B.H a=none/\TU F kvs es
 UG:∀(i j:Nat)xs ys a,ρ[i]?=some (.TQ xs)->ρ[j]?=some (.TQ ys)->σ[i]?=some (some<|.ref a)->σ[j]?=some (some<|.ref a)->i=j
def DOk.to{H':Hp}{σ':St}{ρ ρ':List Sl}(k:DOk B F H σ ρ)(hF:Sj F F')(hH:∀a φ,H a=some (.ext φ)->F a=none->B.H a=none->H' a=some (.ext φ)/\F' a=none)(hρ:∀(i:Nat)kvs,ρ'[i]?=some (.TQ kvs)->ρ[i]?=some (.TQ kvs)/\σ'[i]?=σ[i]?):DOk B F' H' σ' ρ':=by
 refine⟨λi kvs e=>?_,λi j xs ys a e1 e2 e3 e4=>?_⟩;·obtain⟨q,z⟩:=hρ i kvs e;obtain⟨a,es,h1,h2,h3,h4,h5⟩:=k.UC i kvs q;obtain⟨g1,g2⟩:=hH a _ h2 h3 h4;exact⟨a,es,z.trans h1,g1,g2,h4,h5.mono hF⟩
 ·obtain⟨q1,z1⟩:=hρ i xs e1;obtain⟨q2,z2⟩:=hρ j ys e2;exact k.UG i j xs ys a q1 q2 (z1▸e3)<|z2▸e4
def u6{σ:St}{ρ:List Sl}{v:Option V}{s:Sl}(hs:∀kvs,s≠.TQ kvs)(j:Nat)(kvs:List (bh×Int))(h:(ρ.set i s)[j]?=some (.TQ kvs)):ρ[j]?=some (.TQ kvs)/\(σ.set i v)[j]?=σ[j]?:=by
 by_cases e:i=j
 ·subst e;rw[List.getElem?_set_self']at h;cases z:ρ[i]? with
  |none=>rw[z]at h;cases h
  |some w=>rw[z]at h;exact absurd (bz h)<|hs kvs
 ·rw[List.getElem?_set_ne e]at h ⊢;exact⟨h,rfl⟩
def rO{σ:St}{ρ:List Sl}{s:Sl}(hs:∀kvs,s≠.TQ kvs)(j:Nat)(kvs:List (bh×Int))(h:(ρ.set i s)[j]?=some (.TQ kvs)):ρ[j]?=some (.TQ kvs)/\σ[j]?=σ[j]?:=⟨(u6 (σ:=[]) (v:=none) hs j kvs h).1,rfl⟩
structure Ok(K:ce)(B:B0)(F H:Hp)(σ:St)(ρ:List Sl):Prop extends Ext B F H where
 len:σ.length=ρ.length
 vals:∀(i:Nat)d,ρ[i]?=some (.val d)->∃v,σ[i]?=some (some v)/\Rep K F v d
 Tj:∀(i:Nat)xs,ρ[i]?=some (.own xs)->∃a vs,σ[i]?=some (some<|.ref a)/\H a=some (.lst vs)/\F a=none/\B.H a=none/\Sh K F vs xs
 dist:∀(i j:Nat)xs ys a,ρ[i]?=some (.own xs)->ρ[j]?=some (.own ys)->σ[i]?=some (some<|.ref a)->σ[j]?=some (some<|.ref a)->i=j
 So:DOk B F H σ ρ
def aU{H:Hp}{p:Addr}(h:H p=none):Sj H (c6 H p o):=λb u q=>by rw[aC<|dZ q h];exact q
def vy(h:Sj F H):Sj (c6 F p o) (c6 H p o):=λb u q=>by
 by_cases hb:b=p;·subst hb;rw[aI]at q ⊢;exact q
 ·rw[aC hb]at q ⊢;exact h b u q
section
variable {K:ce}{ρ:List Sl}
def Ext.refl(h:Sj F H):Ext ⟨F,H⟩ F H:=⟨h,.refl _,.refl _,λa q=>.inl q⟩
def Ext.trans(x:Ext B F H)(y:Ext ⟨F,H⟩ F' H'):Ext B F' H':=⟨y.sub,x.sh.trans y.sh,x.sf.trans y.sf,λa q=>by
  rcases y.nw a q with z |z;·exact x.nw a z
  ·exact .inr (x.sh.free z)⟩
def Ext.kf{a:Addr}(y:Ext B F' H')(h1:B.F a=none)(h2:B.H a=some o):F' a=none:=by
 cases q:F' a with
 |none=>rfl
 |some u=>
  rcases y.nw a (by rw[q];exactλz=>nomatch z)with z |z
  ·exact absurd h1 z
  ·exact nomatch h2.symm.trans z
def Ext.grow{p:Addr}(x:Ext B F H)(hp:H p=none):Ext B (c6 F p o) (c6 H p o):=⟨vy x.sub,x.sh.trans<|aU hp,x.sf.trans<|aU<|x.sub.free hp,λa q=>by
  by_cases h:a=p;·subst h;exact .inr<|x.sh.free hp
  ·rw[aC h]at q;exact x.nw a q⟩
def Ok.ext(k:Ok K B F H σ ρ)(y:Ext ⟨F,H⟩ F' H'):Ok K B F' H' σ ρ:=by
 refine⟨k.toExt.trans y,k.len,λi d e=>?_,λi xs e=>?_,k.dist,k.So.to y.sf (λa φ e1 e2 e3=>⟨y.sh _ _ e1,?_⟩) λ_ _ e=>⟨e,rfl⟩⟩;rotate_left 2;·exact y.kf e2 e1
 ·obtain⟨v,h1,h2⟩:=k.vals i d e;exact⟨v,h1,h2.mono y.sf⟩
 ·obtain⟨a,vs,h1,h2,h3,h4,h5⟩:=k.Tj i xs e;refine⟨a,vs,h1,y.sh _ _ h2,?_,h4,h5.mono y.sf⟩;exact y.kf h3 h2
def Ok.grow{p:Addr}(k:Ok K B F H σ ρ)(hp:H p=none):Ok K B (c6 F p o) (c6 H p o) σ ρ:=k.ext<|(Ext.refl k.sub).grow hp
def Ok.ZS{p:Addr}(k:Ok K B F H σ ρ)(hp:H p=none):Ok K B F (c6 H p o) σ ρ:=k.ext ⟨k.sub.trans<|aU hp,aU hp,.refl _,λa q=>.inl q⟩
def Tw(σ:St)(ρ:List Sl)(p:Addr):Prop:=∀(i:Nat)xs,ρ[i]?=some (.own xs)->σ[i]?≠some (some<|.ref p)
def Ok.noOwn{p:Addr}(k:Ok K B F H σ ρ)(hp:H p=none):Tw σ ρ p:=λi xs e q=>by obtain⟨a,vs,h1,h2,_⟩:=k.Tj i xs e;rw[h1]at q;cases q;rw[hp]at h2;cases h2
def Ok.Ta(k:Ok K B F H σ ρ)(i:Nat)(r:Rep K F v d):Ok K B F H (σ.set i<|some v) (ρ.set i<|.val d):=by
 refine⟨k.toExt,by rw[bq,bq,k.len],λj e q=>?_,λj xs q=>?_,λj l xs ys a q1 q2 q3 q4=>?_,k.So.to (.refl _) (λ_ _ e1 e2 _=>⟨e1,e2⟩) (u6 λ_ z=>nomatch z)⟩
 ·by_cases h:i=j
  ·subst h;rw[List.getElem?_set_self']at q;cases z:ρ[i]? with
   |none=>rw[z]at q;cases q
   |some w=>
    rw[z]at q;cases q;have hi:i<σ.length:=by rw[k.len];exact(List.getElem?_eq_some_iff.mp z).1
    exact⟨v,by rw[List.getElem?_set_self hi],r⟩
  ·rw[List.getElem?_set_ne h]at q ⊢;exact k.vals j e q
 ·by_cases h:i=j
  ·subst h;rw[List.getElem?_set_self']at q;cases z:ρ[i]? with
   |none=>rw[z]at q;cases q
   |some w=>rw[z]at q;cases q
  ·rw[List.getElem?_set_ne h]at q ⊢;exact k.Tj j xs q
 ·have n1:i≠j:=by
   rintro rfl;rw[List.getElem?_set_self']at q1;cases z:ρ[i]? with
   |none=>rw[z]at q1;cases q1
   |some w=>rw[z]at q1;cases q1
  have n2:i≠l:=by
   rintro rfl;rw[List.getElem?_set_self']at q2;cases z:ρ[i]? with
   |none=>rw[z]at q2;cases q2
   |some w=>rw[z]at q2;cases q2
  rw[List.getElem?_set_ne n1]at q1 q3;rw[List.getElem?_set_ne n2]at q2 q4;exact k.dist j l xs ys a q1 q2 q3 q4
def Ok.V3{ds:aQ}{p:Addr}(k:Ok K B F H σ ρ)(i:Nat)(hp:H p=some (.lst vs))(hf:F p=none)(hb:B.H p=none)(hn:Tw σ ρ p)(r:Sh K F vs ds):Ok K B F H (σ.set i<|some<|.ref p) (ρ.set i<|.own ds):=by
 refine⟨k.toExt,by rw[bq,bq,k.len],λj e q=>?_,λj xs q=>?_,λj l xs ys a q1 q2 q3 q4=>?_,k.So.to (.refl _) (λ_ _ e1 e2 _=>⟨e1,e2⟩) (u6 λ_ z=>nomatch z)⟩
 ·by_cases h:i=j
  ·subst h;rw[List.getElem?_set_self']at q;cases z:ρ[i]? with
   |none=>rw[z]at q;cases q
   |some w=>rw[z]at q;cases q
  ·rw[List.getElem?_set_ne h]at q ⊢;exact k.vals j e q
 ·by_cases h:i=j
  ·subst h;rw[List.getElem?_set_self']at q;cases z:ρ[i]? with
   |none=>rw[z]at q;cases q
   |some w=>
    rw[z]at q;cases q;have hi:i<σ.length:=by rw[k.len];exact(List.getElem?_eq_some_iff.mp z).1
    exact⟨p,vs,by rw[List.getElem?_set_self hi],hp,hf,hb,r⟩
  ·rw[List.getElem?_set_ne h]at q ⊢;exact k.Tj j xs q
 ·by_cases n1:i=j
  ·by_cases n2:i=l;·exact n1.symm.trans n2
   ·subst n1;rw[List.getElem?_set_ne n2]at q2 q4;have hi:i<σ.length:=by have:=(List.getElem?_eq_some_iff.mp q3).1;rw[bq]at this;exact this
    rw[List.getElem?_set_self hi]at q3;cases q3;exact absurd q4<|hn l ys q2
  ·by_cases n2:i=l
   ·subst n2;rw[List.getElem?_set_ne n1]at q1 q3;have hi:i<σ.length:=by have:=(List.getElem?_eq_some_iff.mp q4).1;rw[bq]at this;exact this
    rw[List.getElem?_set_self hi]at q4;cases q4;exact absurd q3<|hn j xs q1
   ·rw[List.getElem?_set_ne n1]at q1 q3;rw[List.getElem?_set_ne n2]at q2 q4;exact k.dist j l xs ys a q1 q2 q3 q4
def Ok.VE{vs:dw}{ds:aQ}{i:Nat}(k:Ok K B F H σ ρ)(hi:ρ[i]?=some (.own xs))(hs:σ[i]?=some (some<|.ref p))(r:Sh K F ws ds):Ok K B F (c6 H p<|.lst ws) σ (ρ.set i<|.own ds):=by
 obtain⟨a,us,h1,h2,h3,h4,h5⟩:=k.Tj i xs hi;rw[h1]at hs;cases hs;have S1:i<ρ.length:=(List.getElem?_eq_some_iff.mp hi).1;refine⟨⟨λb u q=>?_,λb u q=>?_,k.sf,k.nw⟩,by rw[bq,k.len],λj e q=>?_,λj ys q=>?_,λj l ys zs b q1 q2 q3 q4=>?_,k.So.to (.refl _) (λb φ e1 e2 _=>⟨by rw[aC λz=>by subst z;rw[h2]at e1;cases e1];exact e1,e2⟩) (rO λ_ z=>nomatch z)⟩
 ·have ne:b≠p:=λz=>by subst z;rw[h3]at q;cases q
  rw[aC ne];exact k.sub b u q
 ·have ne:b≠p:=λz=>by subst z;rw[h4]at q;cases q
  rw[aC ne];exact k.sh b u q
 ·by_cases h:i=j;·subst h;rw[List.getElem?_set_self S1]at q;cases q
  ·rw[List.getElem?_set_ne h]at q;exact k.vals j e q
 ·by_cases h:i=j;·subst h;rw[List.getElem?_set_self S1]at q;cases q;exact⟨p,ws,h1,aI,h3,h4,r⟩
  ·rw[List.getElem?_set_ne h]at q;obtain⟨b,Uj,g1,g2,g3,g4,g5⟩:=k.Tj j ys q;have ne:b≠p:=λz=>by subst z;exact h<|k.dist i j xs ys b hi q h1 g1
   exact⟨b,Uj,g1,by rw[aC ne];exact g2,g3,g4,g5⟩
 ·have own:∀(m:Nat)ys,(ρ.set i<|.own ds)[m]?=some (.own ys)->∃zs,ρ[m]?=some (.own zs):=λm ys q=>by
   by_cases h:i=m;·subst h;exact⟨xs,hi⟩
   ·rw[List.getElem?_set_ne h]at q;exact⟨ys,q⟩
  obtain⟨y1,z1⟩:=own j ys q1;obtain⟨y2,z2⟩:=own l zs q2;exact k.dist j l _ _ b z1 z2 q3 q4
def Ok.W4{i:Nat}(k:Ok K B F H σ ρ)(hi:ρ[i]?=some (.own xs)):∃F',Sj F F'/\Ok K B F' H σ (ρ.set i<|.val<|.lst xs):=by
 obtain⟨a,us,h1,h2,h3,h4,h5⟩:=k.Tj i xs hi;have S1:i<ρ.length:=(List.getElem?_eq_some_iff.mp hi).1;have sf:Sj F (c6 F a<|.lst us):=aU h3;have Wq:∀(j:Nat)ys,(ρ.set i<|.val<|.lst xs)[j]?=some (.own ys)->i≠j/\ρ[j]?=some (.own ys):=λj ys q=>by
  by_cases h:i=j;·subst h;rw[List.getElem?_set_self S1]at q;cases q
  ·rw[List.getElem?_set_ne h]at q;exact⟨h,q⟩
 refine⟨c6 F a<|.lst us,sf,⟨λb u q=>?_,k.sh,k.sf.trans sf,λb q=>?_⟩,by rw[bq,k.len],λj e q=>?_,λj ys q=>?_,λj l ys zs b q1 q2 q3 q4=>?_,k.So.to sf (λb φ e1 e2 _=>⟨e1,by rw[aC λz=>by subst z;rw[h2]at e1;cases e1];exact e2⟩) (rO λ_ z=>nomatch z)⟩
 ·by_cases h:b=a;·subst h;rw[aI]at q;cases q;exact h2
  ·rw[aC h]at q;exact k.sub b u q
 ·by_cases h:b=a;·subst h;exact .inr h4
  ·rw[aC h]at q;exact k.nw b q
 ·by_cases h:i=j;·subst h;rw[List.getElem?_set_self S1]at q;cases q;exact⟨_,h1,.lst aI<|h5.mono sf⟩
  ·rw[List.getElem?_set_ne h]at q;obtain⟨v,g1,g2⟩:=k.vals j e q;exact⟨v,g1,g2.mono sf⟩
 ·obtain⟨h,q⟩:=Wq j ys q;obtain⟨b,Uj,g1,g2,g3,g4,g5⟩:=k.Tj j ys q;have ne:b≠a:=λz=>by subst z;exact h<|k.dist i j xs ys b hi q h1 g1
  exact⟨b,Uj,g1,g2,by rw[aC ne];exact g3,g4,g5.mono sf⟩
 ·exact k.dist j l _ _ b (Wq j ys q1).2 (Wq l zs q2).2 q3 q4
def Ok.drop(k:Ok K B F H σ ρ)(i:Nat):Ok K B F H σ (ρ.set i .un):=by
 have keep:∀(j:Nat)s,(ρ.set i .un)[j]?=some s->s≠.un->ρ[j]?=some s:=λj s q hn=>by
  by_cases h:i=j
  ·subst h;rw[List.getElem?_set_self']at q;cases z:ρ[i]? with
   |none=>rw[z]at q;cases q
   |some w=>rw[z]at q;cases q;exact absurd rfl hn
  ·rw[List.getElem?_set_ne h]at q;exact q
 refine⟨k.toExt,by rw[bq,k.len],λj d q=>k.vals j d (keep j _ q λz=>nomatch z),λj xs q=>k.Tj j xs (keep j _ q λz=>nomatch z),λj l xs ys a q1 q2=>k.dist j l xs ys a (keep j _ q1 λz=>nomatch z) (keep l _ q2 λz=>nomatch z),k.So.to (.refl _) (λ_ _ e1 e2 _=>⟨e1,e2⟩) (rO λ_ z=>nomatch z)⟩
end
set_option autoImplicit true
structure wE(X:Cx)(e:Expr)(σ:St)(H:Hp)(Q:VK):Prop where
 go:∀(pins:fR)(s:Shared),Inv X pins σ H s->dR X (eval e X.env) (EP X pins σ Q) X.xe s
instance zH8 {X:Cx} {e:Expr} {σ:St} {H:Hp} {Q:VK}:CoeFun (wE X e σ H Q) (λ_=>∀(pins:fR)(s:Shared),Inv X pins σ H s->dR X (eval e X.env) (EP X pins σ Q) X.xe s):=⟨wE.go⟩
structure wT(X:Cx)(e:Expr)(σ:St)(H:Hp)(Q:(Bool->Hp->Prop)):Prop where
 go:∀(pins:fR)(s:Shared),Inv X pins σ H s->dR X (isTrue e X.env<|eval e X.env) (TP X pins σ Q) X.xe s
instance zH3 {X:Cx} {e:Expr} {σ:St} {H:Hp} {Q:Bool->Hp->Prop}:CoeFun (wT X e σ H Q) (λ_=>∀(pins:fR)(s:Shared),Inv X pins σ H s->dR X (isTrue e X.env<|eval e X.env) (TP X pins σ Q) X.xe s):=⟨wT.go⟩
structure wW(X:Cx)(e:Expr)(σ:St)(H:Hp)(Q:(Bool->Hp->Prop)):Prop where
 go:∀(whole:Sem Value)(pins:fR)(s:Shared),Inv X pins σ H s->dR X (isTrue e X.env whole) (TP X pins σ Q) X.xe s
instance zH2 {X:Cx} {e:Expr} {σ:St} {H:Hp} {Q:Bool->Hp->Prop}:CoeFun (wW X e σ H Q) (λ_=>∀(whole:Sem Value)(pins:fR)(s:Shared),Inv X pins σ H s->dR X (isTrue e X.env whole) (TP X pins σ Q) X.xe s):=⟨wW.go⟩
structure wA(X:Cx)(es:rH)(σ:St)(H:Hp)(Q:(dw->Hp->Prop)):Prop where
 go:∀(pos:Pos)(pins:fR)(s:Shared),Inv X pins σ H s->dR X (spliced<|backTo pos<|starEach es X.env) (AP X pins σ Q) X.xe s
instance zH9 {X:Cx} {es:rH} {σ:St} {H:Hp} {Q:dw->Hp->Prop}:CoeFun (wA X es σ H Q) (λ_=>∀(pos:Pos)(pins:fR)(s:Shared),Inv X pins σ H s->dR X (spliced<|backTo pos<|starEach es X.env) (AP X pins σ Q) X.xe s):=⟨wA.go⟩
structure wS(X:Cx)(st:Stmt)(D:kP)(σ:St)(H:Hp):Prop where
 go:∀(pins:fR)(s:Shared),Inv X pins σ H s->dR X (exec st X.env) (SP X pins D) X.xe s
instance zH4 {X:Cx} {st:Stmt} {D:kP} {σ:St} {H:Hp}:CoeFun (wS X st D σ H) (λ_=>∀(pins:fR)(s:Shared),Inv X pins σ H s->dR X (exec st X.env) (SP X pins D) X.xe s):=⟨wS.go⟩
structure wSs(X:Cx)(st:List Stmt)(D:kP)(σ:St)(H:Hp):Prop where
 go:∀(pins:fR)(s:Shared),Inv X pins σ H s->dR X (execs st X.env) (SP X pins D) X.xe s
instance zEK {X:Cx} {st:List Stmt} {D:kP} {σ:St} {H:Hp}:CoeFun (wSs X st D σ H) (λ_=>∀(pins:fR)(s:Shared),Inv X pins σ H s->dR X (execs st X.env) (SP X pins D) X.xe s):=⟨wSs.go⟩
structure wO(X:Cx)(e:Option Expr)(σ:St)(H:Hp)(Q:(Option Int->Hp->Prop)):Prop where
 go:∀(pins:fR)(s:Shared),Inv X pins σ H s->dR X (evalPart e X.env) (λu s'=>∃o H',Inv X pins σ H' s'/\IsPart u o/\Q o H') X.xe s
instance zH5 {X:Cx} {e:Option Expr} {σ:St} {H:Hp} {Q:Option Int->Hp->Prop}:CoeFun (wO X e σ H Q) (λ_=>∀(pins:fR)(s:Shared),Inv X pins σ H s->dR X (evalPart e X.env) (λu s'=>∃o H',Inv X pins σ H' s'/\IsPart u o/\Q o H') X.xe s):=⟨wO.go⟩
structure wG(X:Cx)(e:Expr)(v:V)(σ:St)(H:Hp)(Q:(St->Hp->Prop)):Prop where
 go:∀(pins:fR)(s:Shared)(u:Value),Inv X pins σ H s->RelV v u->dR X (assign e X.env u) (λ_ s'=>∃σ' H',Inv X pins σ' H' s'/\Q σ' H') X.xe s
instance zH7 {X:Cx} {e:Expr} {v:V} {σ:St} {H:Hp} {Q:St->Hp->Prop}:CoeFun (wG X e v σ H Q) (λ_=>∀(pins:fR)(s:Shared)(u:Value),Inv X pins σ H s->RelV v u->dR X (assign e X.env u) (λ_ s'=>∃σ' H',Inv X pins σ' H' s'/\Q σ' H') X.xe s):=⟨wG.go⟩
section
variable {st:Stmt}{oe:Option Expr}
def aR:PE X e (wE X e):=λpins s _ _ _ I h=>h pins s I
def lO:PT X e (wT X e):=λpins s _ _ _ I h=>h pins s I
def JE:PW X e (wW X e):=λwh pins s _ _ _ I h=>h wh pins s I
def pZ:PA X es (wA X es):=λpos pins s _ _ _ I h=>h pos pins s I
def vW:PS X st (wS X st):=λpins s _ _ _ I h=>h pins s I
def dz:Wc X T1 (wSs X T1):=λpins s _ _ _ I h=>h pins s I
def JM:PO X oe (wO X oe):=λpins s _ _ _ I h=>h pins s I
def Fx:PG X e (wG X e):=λpins s _ _ _ u _ I r h=>h pins s u I r
end
abbrev cA:=List Sl
def Se(X:Cx)(ρ:cA)(e:Expr)(d:D):Prop:=∀(B:B0)(F H:Hp)(σ:St)(Q:VK),Ok X.K B F H σ ρ->(∀v F' H',Ext ⟨F,H⟩ F' H'->Rep X.K F' v d->Q v H')->wE X e σ H Q
def Ss(X:Cx)(ρ:cA)(e:Expr)(xs:aQ):Prop:=∀(B:B0)(F H:Hp)(σ:St)(Q:VK),Ok X.K B F H σ ρ->(∀p vs F' H',Ext ⟨F,H⟩ F' H'->H p=none->H' p=some (.lst vs)->F' p=none->Sh X.K F' vs xs->Q (.ref p) H')->wE X e σ H Q
def Xi(K:ce)(k:Bool)(H:Hp)(a:Addr)(vs:dw):Prop:=if k=true then Ts K H a vs else Uu K H a vs
def Vd(X:Cx)(ρ:cA)(e:Expr)(k:Bool)(xs:aQ):Prop:=∀(B:B0)(F H:Hp)(σ:St)(Q:VK),Ok X.K B F H σ ρ->(∀a vs F' H',Ext ⟨F,H⟩ F' H'->Xi X.K k H' a vs->Sh X.K F' vs xs->Q (.ref a) H')->wE X e σ H Q
def Sg(X:Cx)(ρ:cA)(e:Expr)(b:Bool):Prop:=∀(B:B0)(F H:Hp)(σ:St)(Q:Bool->Hp->Prop),Ok X.K B F H σ ρ->(∀F' H',Ext ⟨F,H⟩ F' H'->Q b H')->wT X e σ H Q
def Ui(X:Cx)(ρ:cA)(e:Expr)(b:Bool):Prop:=∀(B:B0)(F H:Hp)(σ:St)(Q:Bool->Hp->Prop),Ok X.K B F H σ ρ->(∀F' H',Ext ⟨F,H⟩ F' H'->Q b H')->wW X e σ H Q
def Pl(e:Expr):Prop:=∀(es:rH)(env:Env),starEach (e::es) env=(false,eval e env)::starEach es env
def VG:rH->Prop|[]=>True|e::es=>Pl e/\VG es
def VG.any{env:Env}:∀{es:rH},VG es->(backTo pos<|starEach es env).any (·.1)=false|[],_=>rfl|e::es,h=>by rw[h.1 es env];show(false||(backTo pos<|starEach es env).any (·.1))=false;rw[VG.any h.2];rfl
def S3(X:Cx)(ρ:cA)(es:rH)(ds:aQ):Prop:=VG es/\∀(B:B0)(F H:Hp)(σ:St)(Q:dw->Hp->Prop),Ok X.K B F H σ ρ->(∀vs F' H',Ext ⟨F,H⟩ F' H'->Sh X.K F' vs ds->Q vs H')->wA X es σ H Q
def XW(X:Cx)(ρ:cA)(e:Option Expr)(o:Option Int):Prop:=∀(B:B0)(F H:Hp)(σ:St)(Q:Option Int->Hp->Prop),Ok X.K B F H σ ρ->(∀F' H',Ext ⟨F,H⟩ F' H'->Q o H')->wO X e σ H Q
inductive Out where
 |nx (ρ:cA) |rt (d:D)
def UB(K:ce)(B:B0)(F₀:Hp)(E:kP):Out->Prop|.nx ρ=>∀F H σ,Ok K B F H σ ρ->Sj F₀ F->E.nx σ H|.rt d=>∀v F H,Ext B F H->Rep K F v d->E.rt v H
def UB.later{K:ce}(h:UB K B F₀ E o)(s:Sj F₀ F₁):UB K B F₁ E o:=by
 cases o with
 |nx ρ=>exactλF H σ k s'=>h F H σ k<|s.trans s'
 |rt d=>exact h
def SQ(X:Cx)(ρ:cA)(st:Stmt)(o:Out):Prop:=∀(B:B0)(F H:Hp)(σ:St)(E:kP),Ok X.K B F H σ ρ->UB X.K B F E o->wS X st E σ H
def Sf(X:Cx)(ρ:cA)(T1:List Stmt)(o:Out):Prop:=∀(B:B0)(F H:Hp)(σ:St)(E:kP),Ok X.K B F H σ ρ->UB X.K B F E o->wSs X T1 E σ H
def Vi(X:Cx)(ρ:cA)(tg:Expr)(d:D)(ρ':cA):Prop:=∀(B:B0)(F H:Hp)(σ:St)(v:V)(Q:St->Hp->Prop),Ok X.K B F H σ ρ->Rep X.K F v d->(∀F' H' σ',Ok X.K B F' H' σ' ρ'->Sj F F'->Q σ' H')->wG X tg v σ H Q
def Ve(X:Cx)(ρ:cA)(tg:Expr)(d:D)(ρ':cA):Prop:=∀(B:B0)(F H:Hp)(σ:St)(v:V)(Q:St->Hp->Prop),Ok X.K B F H σ ρ->Rep X.K F v d->(∀σ',Ok X.K B F H σ' ρ'->(∀p,Tw σ ρ p->Tw σ' ρ' p)->Q σ' H)->wG X tg v σ H Q
def Ext.t{H:Hp}(x:Ext ⟨F,H⟩ F' H')(y:Ext ⟨F',H'⟩ F2 H2):Ext ⟨F,H⟩ F2 H2:=x.trans y
def Se.of(h:PE X e t)(r:∀(B:B0)(F H:Hp)(σ:St)(Q:VK),Ok X.K B F H σ ρ->(∀v F' H',Ext ⟨F,H⟩ F' H'->Rep X.K F' v d->Q v H')->t σ H Q):Se X ρ e d:=λB F H σ Q k q=>.mk λpins s I=>h pins s σ H Q I<|r B F H σ Q k q
def Ss.of(h:PE X e t)(r:∀(B:B0)(F H:Hp)(σ:St)(Q:VK),Ok X.K B F H σ ρ->(∀p vs F' H',Ext ⟨F,H⟩ F' H'->H p=none->H' p=some (.lst vs)->F' p=none->Sh X.K F' vs xs->Q (.ref p) H')->t σ H Q):Ss X ρ e xs:=λB F H σ Q k q=>.mk λpins s I=>h pins s σ H Q I<|r B F H σ Q k q
def Vd.of(h:PE X e t)(r:∀(B:B0)(F H:Hp)(σ:St)(Q:VK),Ok X.K B F H σ ρ->(∀a vs F' H',Ext ⟨F,H⟩ F' H'->Xi X.K k H' a vs->Sh X.K F' vs xs->Q (.ref a) H')->t σ H Q):Vd X ρ e k xs:=λB F H σ Q k q=>.mk λpins s I=>h pins s σ H Q I<|r B F H σ Q k q
def Sg.of{t:TT}(h:PT X e t)(r:∀(B:B0)(F H:Hp)(σ:St)(Q:Bool->Hp->Prop),Ok X.K B F H σ ρ->(∀F' H',Ext ⟨F,H⟩ F' H'->Q b H')->t σ H Q):Sg X ρ e b:=λB F H σ Q k q=>.mk λpins s I=>h pins s σ H Q I<|r B F H σ Q k q
def Ui.of{t:TT}(h:PW X e t)(r:∀(B:B0)(F H:Hp)(σ:St)(Q:Bool->Hp->Prop),Ok X.K B F H σ ρ->(∀F' H',Ext ⟨F,H⟩ F' H'->Q b H')->t σ H Q):Ui X ρ e b:=λB F H σ Q k q=>.mk λwh pins s I=>h wh pins s σ H Q I<|r B F H σ Q k q
def SQ.of{st:Stmt}(h:PS X st t)(r:∀(B:B0)(F H:Hp)(σ:St)(E:kP),Ok X.K B F H σ ρ->UB X.K B F E o->t E σ H):SQ X ρ st o:=λB F H σ E k q=>.mk λpins s I=>h pins s σ H E I<|r B F H σ E k q
def Sf.of(h:Wc X T1 t)(r:∀(B:B0)(F H:Hp)(σ:St)(E:kP),Ok X.K B F H σ ρ->UB X.K B F E o->t E σ H):Sf X ρ T1 o:=λB F H σ E k q=>.mk λpins s I=>h pins s σ H E I<|r B F H σ E k q
def Vi.of(h:PG X e t)(r:∀(B:B0)(F H:Hp)(σ:St)(v:V)(Q:St->Hp->Prop),Ok X.K B F H σ ρ->Rep X.K F v d->(∀F' H' σ',Ok X.K B F' H' σ' ρ'->Sj F F'->Q σ' H')->t v σ H Q):Vi X ρ e d ρ':=λB F H σ v Q k rv q=>.mk λpins s u I ru=>h pins s σ H v u Q I ru<|r B F H σ v Q k rv q
def Ve.of(h:PG X e t)(r:∀(B:B0)(F H:Hp)(σ:St)(v:V)(Q:St->Hp->Prop),Ok X.K B F H σ ρ->Rep X.K F v d->(∀σ',Ok X.K B F H σ' ρ'->(∀p,Tw σ ρ p->Tw σ' ρ' p)->Q σ' H)->t v σ H Q):Ve X ρ e d ρ':=λB F H σ v Q k rv q=>.mk λpins s u I ru=>h pins s σ H v u Q I ru<|r B F H σ v Q k rv q
def Tw.Ta(h:Tw σ ρ p)(i:Nat)(v:Option V)(d:D):Tw (σ.set i v) (ρ.set i<|.val d) p:=λj xs e q=>by
 by_cases hj:i=j
 ·subst hj;rw[List.getElem?_set_self']at e;cases z:ρ[i]? with
  |none=>rw[z]at e;cases e
  |some w=>rw[z]at e;cases e
 ·rw[List.getElem?_set_ne hj]at e q;exact h j xs e q
def Ext.freeze{H:Hp}{p:Addr}(x:Ext ⟨F,H⟩ F' H')(h0:H p=none)(hp:H' p=some (.lst vs))(hf:F' p=none):Ext ⟨F,H⟩ (c6 F' p<|.lst vs) H':=⟨λb u q=>by
  by_cases h:b=p;·subst h;rw[aI]at q;cases q;exact hp
  ·rw[aC h]at q;exact x.sub b u q,x.sh,x.sf.trans<|aU hf,λa q=>by
  by_cases h:a=p;·subst h;exact .inr h0
  ·rw[aC h]at q;exact x.nw a q⟩
def Ss.SF(h:Ss X ρ e xs):Se X ρ e (.lst xs):=λB F H σ Q k q=>h B F H σ Q k λp vs F' H' x h0 hp hf r=>q _ _ _ (x.freeze h0 hp hf)<|.lst aI<|r.mono<|aU hf
def Xi.mono{K:ce}(s:Sj H H')(h:Xi K k H a vs):Xi K k H' a vs:=by
 cases k with
 |true=>exact s.seq h
 |false=>
  have h':Uu K H a vs:=h;show Uu K H' a vs;rcases h' with(h |⟨o,h⟩) |h;·exact .inl<|.inl<|s _ _ h
  ·exact .inl<|.inr ⟨o,s _ _ h⟩
  ·exact .inr h
def Se.ql(h:Se X ρ e (.lst xs)):Vd X ρ e true xs:=λB F H σ Q k q=>h B F H σ Q k λv F' H' x r=>by cases r with|lst hf rl=>exact q _ _ _ _ x (show Ts _ _ _ _ from Ts.of<|x.sub _ _ hf) rl
def Se.qt(h:Se X ρ e (.tup xs)):Vd X ρ e false xs:=λB F H σ Q k q=>h B F H σ Q k λv F' H' x r=>by cases r with|tup hf rl=>exact q _ _ _ _ x (show Uu _ _ _ _ from Uu.of<|x.sub _ _ hf) rl
def Se.qs(h:Se X ρ e (.Vg ns)):Vd X ρ e true (ns.map D.int):=λB F H σ Q k q=>h B F H σ Q k λv F' H' x r=>by cases r with|Vg hs=>exact q _ _ _ _ x (show Ts _ _ _ _ from x.sub.seq hs)<|Sh.ints ns
def Ss.toQ(h:Ss X ρ e xs):Vd X ρ e true xs:=h.SF.ql
structure At(X:Cx)(N:cH)(sc:Scope):Prop where
 eN:X.N=N
 eS:X.env.scope=sc
 calm:X.calm=true
 nd:X.N.Nodup
 U7:X.xe=λ_ _=>False
 un:X.A.units+64<cLine
 dp:X.A.depth+100<recursionLimit
 tree:X.prog.given.tree=none
 fr:∃env l,X.stack=env::l/\env.scope.isGenerator=false/\env.scope.isCoroutine=false/\env.builtins=builtinsNs/\env.globals=mainGlobals
structure We(X:Cx)(N:cH)(sc:Scope):Prop where
 eN:X.N=N
 eS:X.env.scope=sc
 nd:X.N.Nodup
 U7:X.xe=λ_ _=>False
 un:X.A.units+64<cLine
 dp:X.A.depth+100<recursionLimit
 tree:X.prog.given.tree=none
 fr:∃env l,X.stack=env::l/\env.scope.isGenerator=false/\env.scope.isCoroutine=false/\env.builtins=builtinsNs/\env.globals=mainGlobals
def At.z(t:At X N sc):We X N sc:=⟨t.eN,t.eS,t.nd,t.U7,t.un,t.dp,t.tree,t.fr⟩
def We.at(t:We X N sc)(h:X.calm=true):At X N sc:=⟨t.eN,t.eS,h,t.nd,t.U7,t.un,t.dp,t.tree,t.fr⟩
def Pw(A:Around)(H:Hp):Prop:=∃(ea:Addr)(oe:Obj)(u:HO)(vs:Array Value),A.handled=some (.ref ea)/\H ea=some (.TB oe u)/\oe.data=.fields vs/\vs[2]?=some .none
class Vh (X:Cx):Prop where
 fn:∀x,X.fn x=true
def At.pass(a:At X N sc):PassesOwn (model X.prog X.w) X.A X.env X.xe:=by rw[a.U7];exact PassesOwn.never
def fO(sc:Scope)(x:Str):Bool:=match sc.names.lookup x with
 |some .local=>true|some .cell=>true
 |some .free=>true|_=>false
def nJ(sc:Scope)(x:Str):Bool:=match sc.names.lookup x with
 |some .local=>true|some .cell=>true
 |_=>false
def Gy{x:Str}(h:fO sc x=true):Pm sc x:=by
 unfold fO at h;cases e:sc.names.lookup x with
 |none=>rw[e]at h;cases h
 |some k=>rw[e]at h;cases k<;>first |exact .inl e |exact .inr (.inl e) |exact .inr (.inr e) |cases h
def HB{x:Str}(h:nJ sc x=true):NO sc x:=by
 unfold nJ at h;cases e:sc.names.lookup x with
 |none=>rw[e]at h;cases h
 |some k=>rw[e]at h;cases k<;>first |exact .inl e |exact .inr e |cases h
def cZ(x:Str):Bool:=!(x==("__debug__":Str))&& !(x==("__classdict__":Str))
def tG{i:Nat}(t:At X N sc)(hN:N[i]?=some x)(hv:fO sc x=true)(hx:cZ x=true):PE X (.Name x pos) (Oh i):=by unfold cZ at hx;rw[dM,i9,i9]at hx;exact Hj (by rw[t.eN];exact hN) (by rw[t.eS];exact Gy hv) hx.1 hx.2
def aa{ρ:cA}(t:At X N sc)(i:Nat)(hr:ρ[i]?=some (.val d):=by rfl)(hN:N[i]?=some x:=by rfl)(hv:fO sc x=true:=by rfl)(hx:cZ x=true:=by rfl):Se X ρ (.Name x pos) d:=.of (tG t hN hv hx) λB F H σ Q k q=>by obtain⟨v,h1,h2⟩:=k.vals i d hr;exact⟨v,h1,q v F H (.refl k.sub) h2⟩
def hV{ρ:cA}(t:At X N sc)(i:Nat)(hr:ρ[i]?=some (.own xs))(hN:N[i]?=some x:=by rfl)(hv:fO sc x=true:=by rfl)(hx:cZ x=true:=by rfl):Vd X ρ (.Name x pos) true xs:=.of (tG t hN hv hx) λB F H σ Q k q=>by obtain⟨p,vs,h1,h2,h3,h4,h5⟩:=k.Tj i xs hr;exact⟨_,h1,q p vs F H (.refl k.sub) (show Ts _ _ _ _ from Ts.of h2) h5⟩
def af:Se X ρ (.Constant (.int i) j pos) (.int i):=.of Hl λB F H σ Q k q=>q _ F H (.refl k.sub)<|.int i
def Cb:Se X ρ (.Constant (.bool b) j pos) (.bl b):=.of OR λB F H σ Q k q=>q _ F H (.refl k.sub)<|.bl b
def gh:Se X ρ (.Constant .none j pos) .Sy:=.of MA λB F H σ Q k q=>q _ F H (.refl k.sub) .Sy
def Sd:Se X ρ (.Constant (.str x) j pos) (.str x):=.of De λB F H σ Q k q=>q _ F H (.refl k.sub)<|.str x
def two(ha:Se X ρ a da)(hb:Se X ρ b db){R:V->V->Hp->Prop}(k:Ok X.K B F H σ ρ)(h:∀x y F' H',Ext ⟨F,H⟩ F' H'->Rep X.K F' x da->Rep X.K F' y db->R x y H'):wE X a σ H λx H1=>wE X b σ H1 λy H2=>R x y H2:=ha B F H σ _ k λx F1 H1 x1 r1=>hb B F1 H1 σ _ (k.ext x1) λy F2 H2 x2 r2=>h x y F2 H2 (x1.t x2) (r1.mono x2.sf) r2
def vg{i j m:Int}{C:Int->Int->Prop}{g:Int->Int->Int}(ho:mK X (binaryOp op) (rI C λi j=>.int<|g i j))(ha:Se X ρ a (.int i))(hb:Se X ρ b (.int j))(hc:C i j)(hm:g i j=m):Se X ρ (.BinOp a op b pos) (.int m):=.of (qw ho aR aR) λB F H σ Q k q=>two ha hb k λx y F' H' x' rx ry=>by cases rx;cases ry;subst hm;exact⟨i,j,rfl,rfl,hc,q _ F' H' x'<|.int _⟩
def wN{i j m:Int}{g:Int->Int->Int}(ho:mK X (binaryOp op) (IU λi j=>.int<|g i j))(ha:Se X ρ a (.int i))(hb:Se X ρ b (.int j))(hm:g i j=m):Se X ρ (.BinOp a op b pos) (.int m):=.of (qw ho aR aR) λB F H σ Q k q=>two ha hb k λx y F' H' x' rx ry=>by cases rx;cases ry;subst hm;exact⟨i,j,rfl,rfl,q _ F' H' x'<|.int _⟩
def bK(ha:Se X ρ a (.int i))(hb:Se X ρ b (.int j)):Se X ρ (.BinOp a .Add b pos) (.int<|i+j):=wN MK ha hb rfl
def jj(ha:Se X ρ a (.int i))(hb:Se X ρ b (.int j)):Se X ρ (.BinOp a .Sub b pos) (.int<|i-j):=wN ME ha hb rfl
def JT:mK X (binaryOp .Mult) (rI IntMulOk λi j=>.int<|i*j):=OU λ_ _ _ _ _ _ _ hc q=>mul_int q hc
def At.Yg(t:At X N sc)(I:Inv X pins σ H s):PylongRoom (model X.prog X.w) X.A s:=by obtain⟨env,l,h1,h2,h3,h4,h5⟩:=t.fr;exact PylongRoom.of I.nolimit t.dp<|SeerAt.of (I.ok.mod.seer.keeps I.bk) t.tree (by rw[I.ok.frames,h1]) h2 h3 h4 h5
def JU(t:At X N sc):mK X (binaryOp .FloorDiv) (rI (λ_ j=>j≠0) λi j=>.int<|i.fdiv j):=by intro pins s σ H x y v u Q I rx ry h;obtain⟨i,j,rfl,rfl,hc,q⟩:=h;obtain⟨t1,rfl⟩:=rx;obtain⟨t2,rfl⟩:=ry;exact floordiv_int hc ⟨.int<|i.fdiv j,H,I.tok _,⟨_,rfl⟩,q⟩<|.inr<|t.Yg I
def gj(ha:Se X ρ a (.int i))(hb:Se X ρ b (.int j))(hc:IntMulOk i j):Se X ρ (.BinOp a .Mult b pos) (.int<|i*j):=vg JT ha hb hc rfl
def iR(t:At X N sc)(ha:Se X ρ a (.int i))(hb:Se X ρ b (.int j))(h0:0<j):Se X ρ (.BinOp a .FloorDiv b pos) (.int<|i / j):=vg (JU t) ha hb (by lia)<|Int.fdiv_eq_ediv_of_nonneg i<|by lia
def bO(ha:Se X ρ a (.int i))(hb:Se X ρ b (.int j))(h0:0<j):Se X ρ (.BinOp a .Mod b pos) (.int<|i%j):=vg Hr ha hb h0 rfl
def wK(ha:Se X ρ a (.int i))(hb:Se X ρ b (.int j))(h0:PB i j):Se X ρ (.BinOp a .Pow b pos) (.int<|i ^ j.toNat):=vg MG ha hb h0 rfl
def qU(ha:Se X ρ a (.int i)):Se X ρ (.UnaryOp .USub a pos) (.int (-i)):=.of (OQ L3 aR) λB F H σ Q k q=>ha B F H σ _ k λx F' H' x' rx=>by cases rx;exact⟨i,rfl,q _ F' H' x'<|.int _⟩
def Kr{i j:Int}{op:CmpOp}{g:Int->Int->Bool}(ho:mK X (compareOp op) (IU λi j=>.bl<|g i j))(ha:Se X ρ a (.int i))(hb:Se X ρ b (.int j))(hm:behindInMarks op b=false):Se X ρ (.Compare a [op] [b] pos) (.bl<|g i j):=.of (pN ho aR aR hm) λB F H σ Q k q=>two ha hb k λx y F' H' x' rx ry=>by cases rx;cases ry;exact⟨i,j,rfl,rfl,q _ F' H' x'<|.bl _⟩
def Lv(ha:Se X ρ a (.int i))(hb:Se X ρ b (.int j)):Se X ρ (.Compare a [.Gt] [b] pos) (.bl<|decide<|j<i):=Kr Hs ha hb<|dF _ (by decide)<|by decide
mutual
def fS:D->PyData
 |.Sy=>.none|.bl b=>.bool b
 |.int i=>.int i|.str x=>.str x
 |.tup xs=>.tuple (Sq xs)|.lst xs=>.list<|Sq xs
 |.Vg ns=>.list (ns.map PyData.int)|.exc _=>.dict []
 |.VJ _ _=>.dict []|.So _=>.dict []
 |.adr _=>.dict []|.TL _=>.dict []
def Sq:aQ->List PyData|[]=>[]|d::ds=>fS d::Sq ds
end
def BE(xs:aQ):Sq xs=xs.map fS:=by induction xs with|nil=>rfl|cons d ds ih=>rw[Sq,ih,aP]
def jc(ns:bh):Sq (ns.map D.int)=ns.map PyData.int:=by rw[BE,cj];rfl
def yy{s:Shared}:∀{ns:bh}{us:ir},Vals (ns.map V.int) us->∃as,ReadsAll s.heap us (ns.map PyData.int) as
 |[],_,r=>by cases r;exact⟨_,.nil⟩
 |n::ns,_,r=>by rw[aP]at r;cases r with|cons r1 r2=>obtain⟨as,h⟩:=yy r2;obtain⟨t,rfl⟩:=r1;exact⟨_,.cons (Reads.int n t) h⟩
mutual
def Rep.reads(I:Inv X pins σ H s)(sub:Sj F H):∀{v:V}{d:D}{u:Value},Rep X.K F v d->RelV v u->(fS d).canLay0=true->∃as,Reads s.heap u (fS d) as
 |_,_,u,.Sy,r,hs=>by cases(show u=Value.none from r);exact⟨_,Reads.none⟩
 |_,_,u,.bl b,r,hs=>by cases(show u=Value.bool b from r);exact⟨_,Reads.bool b⟩
 |_,_,u,.int i,r,hs=>by obtain⟨t,e⟩:=(show∃t,u=Value.int i t from r);cases e;exact⟨_,Reads.int i t⟩
 |_,_,u,.str x,r,hs=>by obtain⟨t,e⟩:=(show∃t,u=Value.str x t from r);cases e;exact⟨_,Reads.str x t⟩
 |_,_,u,.tup (a:=a) h rl,r,hs=>by cases(show u=Value.ref a from r);obtain⟨its,rv,p,_⟩:=I.tuple<|Uu.of<|sub _ _ h;obtain⟨o,e,c,n,dt⟩:=p;obtain⟨as,ra⟩:=Sh.reads I sub rl rv (by simpa[fS,PyData.canLay0]using hs);exact⟨_,Reads.tuple e c dt<|by simpa using ra⟩
 |_,_,u,.lst (a:=a) h rl,r,hs=>by cases(show u=Value.ref a from r);obtain⟨its,rv,p,_⟩:=I.list<|Ts.of<|sub _ _ h;obtain⟨o,e,c,n,dt⟩:=p.isList;obtain⟨as,ra⟩:=Sh.reads I sub rl rv (by simpa[fS,PyData.canLay0]using hs);exact⟨_,Reads.list e c dt<|by simpa using ra⟩
 |_,_,u,.exc h,r,hs=>by simp[fS,PyData.canLay0]at hs|_,_,u,.VJ h,r,hs=>by simp[fS,PyData.canLay0]at hs
 |_,_,u,.So h _,r,hs=>by simp[fS,PyData.canLay0]at hs|_,_,u,.adr _,r,hs=>by simp[fS,PyData.canLay0]at hs
 |_,_,u,.TL _,r,hs=>by simp[fS,PyData.canLay0]at hs|_,_,u,.Vg (a:=a) h,r,hs=>by cases(show u=Value.ref a from r);obtain⟨its,rv,p,_⟩:=I.list<|sub.seq h;obtain⟨o,e,c,n,dt⟩:=p.isList;obtain⟨as,ra⟩:=yy (s:=s) rv;exact⟨_,Reads.list e c dt<|by simpa using ra⟩
def Sh.reads(I:Inv X pins σ H s)(sub:Sj F H):∀{vs:dw}{ds:aQ}{us:ir},Sh X.K F vs ds->Vals vs us->PyData.canLayAll0 (Sq ds)=true->∃as,ReadsAll s.heap us (Sq ds) as
 |_,_,_,.nil,r,hs=>by cases r;exact⟨_,.nil⟩
 |_,_,_,.cons r1 r2,r,hs=>by cases r with|cons q1 q2=>rw[Sq,PyData.canLayAll0,dM]at hs;have Yo:=hs;obtain⟨as,h1⟩:=Rep.reads I sub r1 q1 Yo.1;obtain⟨bs,h2⟩:=Sh.reads I sub r2 q2 Yo.2;exact⟨_,.cons h1 h2⟩
end
def Xi.reads(I:Inv X pins σ H s)(sub:Sj F H)(h:Xi X.K k H a vs)(r:Sh X.K F vs xs)(hs:(if k=true then PyData.list (Sq xs)else .tuple<|Sq xs).canLay0=true):∃as,Reads s.heap (.ref a) (if k=true then PyData.list (Sq xs)else .tuple<|Sq xs) as:=by
 cases k with
 |true=>obtain⟨its,rv,p,_⟩:=I.list (show Ts _ _ _ _ from h);obtain⟨o,e,c,n,dt⟩:=p.isList;obtain⟨as,ra⟩:=Sh.reads I sub r rv (by simpa[PyData.canLay0]using hs);exact⟨_,Reads.list e c dt<|by simpa using ra⟩
 |false=>obtain⟨its,rv,p,_⟩:=I.tuple (show Uu _ _ _ _ from h);obtain⟨o,e,c,n,dt⟩:=p;obtain⟨as,ra⟩:=Sh.reads I sub r rv (by simpa[PyData.canLay0]using hs);exact⟨_,Reads.tuple e c dt<|by simpa using ra⟩
def VM(X:Cx)(H:Hp)(v:V)(p:PyData):Prop:=p.canLay0=true->∀(H':Hp),Sj H H'->∀(pins:fR)(σ:St)(s:Shared)(u:Value),Inv X pins σ H' s->RelV v u->∃as,Reads s.heap u p as
def D0(X:Cx)(ρ:cA)(e:Expr)(p:PyData):Prop:=∀(B:B0)(F H:Hp)(σ:St)(Q:VK),Ok X.K B F H σ ρ->(∀v F' H',Ext ⟨F,H⟩ F' H'->VM X H' v p->Q v H')->wE X e σ H Q
def Se.p(h:Se X ρ e d):D0 X ρ e (fS d):=λB F H σ Q k q=>h B F H σ Q k λv F' H' x r=>q v F' H' x λhs H2 s2 pins σ s u I ru=>r.reads I (x.sub.trans s2) ru hs
def Vd.p(h:Vd X ρ e k xs):D0 X ρ e (if k=true then PyData.list (Sq xs)else .tuple<|Sq xs):=λB F H σ Q k' q=>h B F H σ Q k' λa vs F' H' x hs r=>q _ F' H' x λhc H2 s2 pins σ s u I ru=>by cases(show u=Value.ref a from ru);exact Xi.reads I (x.sub.trans s2) (hs.mono s2) r hc
def Eo{p q:PyData}(t:At X N sc)(sp:SeqAt.shaped p=true)(sq:SeqAt.shaped q=true):mK X (compareOp .Eq) (λx y H Q=>VM X H x p/\VM X H y q/\Q (.bl<|p.eqv q) H):=by intro pins s σ H x y v u Q I rx ry h;obtain⟨h1,h2,h3⟩:=h;obtain⟨as,r1⟩:=h1 (n4 sp) H (.refl _) pins σ s v I rx;obtain⟨bs,r2⟩:=h2 (n4 sq) H (.refl _) pins σ s u I ry;exact eq_dataH r1 r2 sp sq t.un ⟨.bl _,H,I,rfl,h3⟩
def La{p q:PyData}(t:At X N sc)(sp:SeqAt.shaped p=true)(sq:SeqAt.shaped q=true):mK X (compareOp .NotEq) (λx y H Q=>VM X H x p/\VM X H y q/\Q (.bl (!p.eqv q)) H):=by intro pins s σ H x y v u Q I rx ry h;obtain⟨h1,h2,h3⟩:=h;obtain⟨as,r1⟩:=h1 (n4 sp) H (.refl _) pins σ s v I rx;obtain⟨bs,r2⟩:=h2 (n4 sq) H (.refl _) pins σ s u I ry;exact ne_dataH r1 r2 sp sq t.un ⟨.bl _,H,I,rfl,h3⟩
def VM.mono(h:VM X H v p)(s:Sj H H'):VM X H' v p:=λhc H2 s2=>h hc H2<|s.trans s2
def zy(ha:D0 X ρ a p)(hb:D0 X ρ b q){R:V->V->Hp->Prop}(k:Ok X.K B F H σ ρ)(h:∀x y F' H',Ext ⟨F,H⟩ F' H'->VM X H' x p->VM X H' y q->R x y H'):wE X a σ H λx H1=>wE X b σ H1 λy H2=>R x y H2:=ha B F H σ _ k λx F1 H1 x1 r1=>hb B F1 H1 σ _ (k.ext x1) λy F2 H2 x2 r2=>h x y F2 H2 (x1.t x2) (r1.mono x2.sh) r2
def AG{r:Bool}(t:At X N sc)(ha:D0 X ρ a p)(hb:D0 X ρ b q)(sp:SeqAt.shaped p=true)(sq:SeqAt.shaped q=true)(hr:p.eqv q=r):Se X ρ (.Compare a [.Eq] [b] pos) (.bl r):=.of (pN (Eo t sp sq) aR aR<|dF _ (by decide)<|by decide) λB F H σ Q k q=>zy ha hb k λx y F' H' x' rx ry=>⟨rx,ry,by rw[hr];exact q _ F' H' x'<|.bl r⟩
def Dx{r:Bool}(t:At X N sc)(ha:D0 X ρ a p)(hb:D0 X ρ b q)(sp:SeqAt.shaped p=true)(sq:SeqAt.shaped q=true)(hr:(!p.eqv q)=r):Se X ρ (.Compare a [.NotEq] [b] pos) (.bl r):=.of (pN (La t sp sq) aR aR<|dF _ (by decide)<|by decide) λB F H σ Q k q=>zy ha hb k λx y F' H' x' rx ry=>⟨rx,ry,by rw[hr];exact q _ F' H' x'<|.bl r⟩
def Nt(t:At X N sc)(ha:Se X ρ a (.int i))(hb:Se X ρ b (.int j)):Se X ρ (.Compare a [.Eq] [b] pos) (.bl<|decide<|i=j):=.of (pN Lg aR aR<|dF _ (by decide)<|by decide) λB F H σ Q k q=>two ha hb k λx y F' H' x' rx ry=>by
  cases rx;cases ry;refine⟨rfl,?_⟩;have e:decide (V.int i=V.int j)=decide (i=j):=by rw[vk,RI]
  rw[e];exact q _ F' H' x'<|.bl _
def Sh.at{K:ce}{i:Int}(r:Sh K F vs xs)(h:kS xs i=some d):∃v,kS vs i=some v/\Rep K F v d:=by
 unfold kS at h ⊢;rw[r.length];cases e:EI xs.length i with
 |none=>rw[e]at h;cases h
 |some j=>rw[e]at h;obtain⟨v,h1,h2⟩:=r.get h;exact⟨v,h1,h2⟩
def qe(ha:Vd X ρ a k xs)(hb:Se X ρ b db){R:V->V->Hp->Prop}(k':Ok X.K B F H σ ρ)(h:∀l vs y F' H',Ext ⟨F,H⟩ F' H'->Xi X.K k H' l vs->Sh X.K F' vs xs->Rep X.K F' y db->R (.ref l) y H'):wE X a σ H λx H1=>wE X b σ H1 λy H2=>R x y H2:=ha B F H σ _ k' λl vs F1 H1 x1 s1 r1=>hb B F1 H1 σ _ (k'.ext x1) λy F2 H2 x2 r2=>h l vs y F2 H2 (x1.t x2) (s1.mono x2.sh) (r1.mono x2.sf) r2
def aY(ha:Vd X ρ a k xs)(hb:Se X ρ b (.int i))(h:kS xs i=some d)(hs:sV b:=by intro _ _;rfl):Se X ρ (.Subscript a b pos) d:=by
 cases k with
 |true=>exact .of (Ex EG aR aR hs) λB F H σ Q k' q=>qe ha hb k' λl vs y F' H' x' sl rl ry=>by cases ry;obtain⟨v,h1,h2⟩:=rl.at h;exact⟨l,vs,i,v,rfl,rfl,sl,h1,q v F' H' x' h2⟩
 |false=>exact .of (Ex M4 aR aR hs) λB F H σ Q k' q=>qe ha hb k' λl vs y F' H' x' sl rl ry=>by cases ry;obtain⟨v,h1,h2⟩:=rl.at h;exact⟨l,vs,i,v,rfl,rfl,sl,h1,q v F' H' x' h2⟩
def eZ:XW X ρ none none:=λB F H σ Q k q=>.mk λpins s I=>JN pins s σ H Q I<|q F H<|.refl k.sub
def eO(h:Se X ρ e (.int i)):XW X ρ (some e) (some i):=λB F H σ Q k q=>.mk λpins s I=>Am aR pins s σ H Q I (h B F H σ _ k λv F' H' x r=>by cases r;exact⟨i,rfl,q F' H' x⟩)
def cutD(xs:aQ)(lo hi:Option Int):aQ:=(xs.drop<|HT.UI xs.length 0 lo).take<|HT.UI xs.length xs.length hi-HT.UI xs.length 0 lo
def Sh.cut{K:ce}(r:Sh K F vs xs)(lo hi:Option Int):Sh K F (FP vs lo hi) (cutD xs lo hi):=by unfold FP cutD;rw[r.length];exact(r.drop _).take _
def gu{lo hi:Option Expr}{l h:Option Int}(ha:Vd X ρ a true xs)(hl:XW X ρ lo l)(hh:XW X ρ hi h):Ss X ρ (.Subscript a (.Slice lo hi none p2) pos) (cutD xs l h):=.of (v7 Jp aR JM JM) λB F H σ Q k q=>ha B F H σ _ k λp vs F1 H1 x1 s1 r1=>hl B F1 H1 σ _ (k.ext x1) λF2 H2 x2=>hh B F2 H2 σ _ (k.ext<|x1.t x2) λF3 H3 x3=>by have x:=x1.t<|x2.t x3;refine⟨p,vs,rfl,(s1.mono x2.sh).mono x3.sh,λl' XA=>?_⟩;have r3:=(r1.mono x2.sf).mono x3.sf;exact q l' _ F3 _ ⟨x.sub.trans<|aU XA,x.sh.trans<|aU XA,x.sf,x.nw⟩ (x.sh.free XA) aI (x.sub.free XA)<|r3.cut l h
def ah:S3 X ρ [] []:=⟨trivial,λB F H σ Q k q=>.mk λpos pins s I=>eM pos pins s σ H Q I<|q [] F H (.refl k.sub) .nil⟩
def ac{ds:aQ}(h1:Se X ρ e d)(h2:S3 X ρ es ds)(hs:Pl e:=by intro _ _;rfl):S3 X ρ (e::es) (d::ds):=⟨⟨hs,h2.1⟩,λB F H σ Q k q=>.mk λpos pins s I=>ck aR pZ (hs _ _) pos pins s σ H Q I (h1 B F H σ _ k λv F1 H1 x1 r1=>h2.2 B F1 H1 σ _ (k.ext x1) λvs F2 H2 x2 r2=>q _ F2 H2 (x1.t x2)<|.cons (r1.mono x2.sf) r2)⟩
def aF{ds:aQ}(h:S3 X ρ es ds)(hl:ds.length<=sizeLine:=by exact fK rfl):Se X ρ (.Tuple es x1 pos) (.tup ds):=.of (Mw pZ) λB F H σ Q k q=>h.2 B F H σ _ k λvs F' H' x r=>⟨by rw[r.length];exact hl,λp hp=>q _ _ _ (x.grow hp)<|.tup aI<|r.mono<|aU<|x.sub.free hp⟩
def bE{ds:aQ}(h:S3 X ρ es ds)(hl:ds.length<=sizeLine:=by exact fK rfl):Ss X ρ (.List es pos) ds:=.of (Hk pZ) λB F H σ Q k q=>h.2 B F H σ _ k λvs F' H' x r=>⟨by rw[r.length];exact hl,λp hp=>q p vs F' _ ⟨x.sub.trans<|aU hp,x.sh.trans<|aU hp,x.sf,x.nw⟩ (x.sh.free hp) aI (x.sub.free hp) r⟩
def fq(ha:Se X ρ a (.lst xs))(hb:Se X ρ b (.lst ys))(hz:xs.length+ys.length<=sizeLine):Ss X ρ (.BinOp a .Add b pos) (xs++ys):=.of (qw MI aR aR) λB F H σ Q k q=>two ha hb k λx y F' H' x' rx ry=>by cases rx with|lst h1 r1=>cases ry with|lst h2 r2=>refine⟨_,_,_,_,rfl,rfl,x'.sub _ _ h1,x'.sub _ _ h2,by rw[r1.length,r2.length];exact hz,λp hp=>?_⟩;exact q p _ F' _ ⟨x'.sub.trans<|aU hp,x'.sh.trans<|aU hp,x'.sf,x'.nw⟩ (x'.sh.free hp) aI (x'.sub.free hp)<|r1.append r2
def t4(ha:Se X ρ a (.lst xs))(hb:Se X ρ b (.int n))(h1: -(2 ^ 63)<=n)(h2:n<2 ^ 63)(hz:xs.length*n.toNat<=sizeLine):Ss X ρ (.BinOp a .Mult b pos) (List.replicate n.toNat xs).flatten:=.of (qw MF aR aR) λB F H σ Q k q=>two ha hb k λx y F' H' x' rx ry=>by cases rx with|lst g1 r1=>cases ry;refine⟨_,n,_,rfl,rfl,x'.sub _ _ g1,h1,h2,by rw[r1.length];exact hz,λp hp=>?_⟩;exact q p _ F' _ ⟨x'.sub.trans<|aU hp,x'.sh.trans<|aU hp,x'.sf,x'.nw⟩ (x'.sh.free hp) aI (x'.sub.free hp)<|r1.rep _
def pQ(ha:Sg X ρ a r):Ui X ρ (.BoolOp .And [a] pos) r:=.of (JF lO) λB F H σ Q k q=>ha B F H σ Q k q
def oO(ha:Sg X ρ a r):Ui X ρ (.BoolOp .Or [a] pos) r:=.of (Mo lO) λB F H σ Q k q=>ha B F H σ Q k q
def ly{bJ:rH}(ha:Sg X ρ a true)(hb:Ui X ρ (.BoolOp .And (b::bJ) pos) r):Ui X ρ (.BoolOp .And (a::b::bJ) pos) r:=.of (G7 lO JE) λB F H σ Q k q=>ha B F H σ _ k λF1 H1 x1=>by rw[ax rfl];exact hb B F1 H1 σ _ (k.ext x1) λF2 H2 x2=>q F2 H2<|x1.t x2
def nj{bJ:rH}(ha:Sg X ρ a false):Ui X ρ (.BoolOp .And (a::b::bJ) pos) false:=.of (G7 lO JE) λB F H σ Q k q=>ha B F H σ _ k λF1 H1 x1=>by rw[av ay];exact q F1 H1 x1
def lR{bJ:rH}(ha:Sg X ρ a false)(hb:Ui X ρ (.BoolOp .Or (b::bJ) pos) r):Ui X ρ (.BoolOp .Or (a::b::bJ) pos) r:=.of (Lb lO JE) λB F H σ Q k q=>ha B F H σ _ k λF1 H1 x1=>by rw[av ay];exact hb B F1 H1 σ _ (k.ext x1) λF2 H2 x2=>q F2 H2<|x1.t x2
def tW{bJ:rH}(ha:Sg X ρ a true):Ui X ρ (.BoolOp .Or (a::b::bJ) pos) true:=.of (Lb lO JE) λB F H σ Q k q=>ha B F H σ _ k λF1 H1 x1=>by rw[ax rfl];exact q F1 H1 x1
def Ui.toT(h:Ui X ρ e r):Sg X ρ e r:=λB F H σ Q k q=>.mk λpins s I=>h B F H σ Q k q _ pins s I
def nu(ha:Sg X ρ a r):Sg X ρ (.UnaryOp .Not a pos) (!r):=.of (Mq lO) λB F H σ Q k q=>ha B F H σ _ k q
def H9{op:BoolOp}(h:Se X ρ a d):Se X ρ (.BoolOp op [a] pos) d:=.of (Mx aR) λB F H σ Q k q=>h B F H σ Q k q
def Ks{bJ:rH}(ha:Se X ρ a (.bl true))(hb:Se X ρ (.BoolOp .And (b::bJ) pos) d):Se X ρ (.BoolOp .And (a::b::bJ) pos) d:=.of (Hn aR aR) λB F H σ Q k q=>ha B F H σ _ k λv F1 H1 x1 r=>by cases r;exact⟨true,rfl,by rw[ax rfl];exact hb B F1 H1 σ _ (k.ext x1) λv F2 H2 x2 r2=>q v F2 H2 (x1.t x2) r2⟩
def Kt{bJ:rH}(ha:Se X ρ a (.bl false)):Se X ρ (.BoolOp .And (a::b::bJ) pos) (.bl false):=.of (Hn aR aR) λB F H σ Q k q=>ha B F H σ _ k λv F1 H1 x1 r=>by cases r;exact⟨false,rfl,by rw[av ay];exact q _ F1 H1 x1<|.bl false⟩
def Np{bJ:rH}(ha:Se X ρ a (.bl false))(hb:Se X ρ (.BoolOp .Or (b::bJ) pos) d):Se X ρ (.BoolOp .Or (a::b::bJ) pos) d:=.of (Le aR aR) λB F H σ Q k q=>ha B F H σ _ k λv F1 H1 x1 r=>by cases r;exact⟨false,rfl,by rw[av ay];exact hb B F1 H1 σ _ (k.ext x1) λv F2 H2 x2 r2=>q v F2 H2 (x1.t x2) r2⟩
def No{bJ:rH}(ha:Se X ρ a (.bl true)):Se X ρ (.BoolOp .Or (a::b::bJ) pos) (.bl true):=.of (Le aR aR) λB F H σ Q k q=>ha B F H σ _ k λv F1 H1 x1 r=>by cases r;exact⟨true,rfl,by rw[ax rfl];exact q _ F1 H1 x1<|.bl true⟩
def EO(ha:Se X ρ a (.bl r)):Se X ρ (.UnaryOp .Not a pos) (.bl (!r)):=.of (Mz aR) λB F H σ Q k q=>ha B F H σ _ k λv F1 H1 x1 rv=>by cases rv;exact⟨r,rfl,q _ F1 H1 x1<|.bl _⟩
def wL(hc:Sg X ρ c true)(ha:Se X ρ a d):Se X ρ (.IfExp c a b pos) d:=.of (si lO aR aR) λB F H σ Q k q=>hc B F H σ _ k λF1 H1 x1=>by rw[ax rfl];exact ha B F1 H1 σ _ (k.ext x1) λv F2 H2 x2 r2=>q v F2 H2 (x1.t x2) r2
def wM(hc:Sg X ρ c false)(hb:Se X ρ b d):Se X ρ (.IfExp c a b pos) d:=.of (si lO aR aR) λB F H σ Q k q=>hc B F H σ _ k λF1 H1 x1=>by rw[av ay];exact hb B F1 H1 σ _ (k.ext x1) λv F2 H2 x2 r2=>q v F2 H2 (x1.t x2) r2
def Ie(ha:Se X ρ e (.int i))(he:∀whole,isTrue e X.env whole=(do let v <-whole;standAt e.pos;holding [v] (truthy v)):=by intro _;rfl):Sg X ρ e (i !=0):=.of (Hb aR he) λB F H σ Q k q=>ha B F H σ _ k λv F1 H1 x1 r=>by cases r;exact⟨_,rfl,q F1 H1 x1⟩
def jJ(ha:Se X ρ e (.bl r))(he:∀whole,isTrue e X.env whole=(do let v <-whole;standAt e.pos;holding [v] (truthy v)):=by intro _;rfl):Sg X ρ e r:=.of (Mp aR he) λB F H σ Q k q=>ha B F H σ _ k λv F1 H1 x1 rv=>by cases rv;exact⟨r,rfl,q F1 H1 x1⟩
section
def qY{op:CmpOp}{r:R2}(ho:mK X (compareOp op) r)(ha:Se X ρ a da)(hb:Se X ρ b db)(hm:behindInMarks op b=false)(hr:∀(F H:Hp)x y(Q:VK),Rep X.K F x da->Rep X.K F y db->Q (.bl k) H->r x y H Q):Sg X ρ (.Compare a [op] [b] pos) k:=.of (fY ho aR aR hm) λB F H σ Q k' q=>two ha hb k' λx y F' H' x' rx ry=>hr F' H' x y _ rx ry ⟨k,rfl,q F' H' x'⟩
def fZ(ha:Se X ρ a (.int i))(hb:Se X ρ b (.int j)):Sg X ρ (.Compare a [.Lt] [b] pos) (decide<|i<j):=qY Lf ha hb (dF _ (by decide)<|by decide) λF H x y Q rx ry q=>by cases rx;cases ry;exact⟨i,j,rfl,rfl,q⟩
def fg(ha:Se X ρ a (.int i))(hb:Se X ρ b (.int j)):Sg X ρ (.Compare a [.Gt] [b] pos) (decide<|j<i):=qY Hs ha hb (dF _ (by decide)<|by decide) λF H x y Q rx ry q=>by cases rx;cases ry;exact⟨i,j,rfl,rfl,q⟩
def Lw(ha:Se X ρ a (.int i))(hb:Se X ρ b (.int j)):Sg X ρ (.Compare a [.GtE] [b] pos) (decide<|j<=i):=qY OT ha hb (dF _ (by decide)<|by decide) λF H x y Q rx ry q=>by cases rx;cases ry;exact⟨i,j,rfl,rfl,q⟩
def Ci{i:Int}:decide (V.int i=V.int j)=decide (i=j):=by rw[vk,RI]
def fH(ha:Se X ρ a (.int i))(hb:Se X ρ b (.int j)):Sg X ρ (.Compare a [.Eq] [b] pos) (decide<|i=j):=qY Lg ha hb (dF _ (by decide)<|by decide) λF H x y Q rx ry q=>by cases rx;cases ry;exact⟨rfl,by rw[Ci];exact q⟩
def oS(ha:Se X ρ a (.int i))(hb:Se X ρ b (.int j)):Sg X ρ (.Compare a [.NotEq] [b] pos) (!decide (i=j)):=qY OS ha hb (dF _ (by decide)<|by decide) λF H x y Q rx ry q=>by cases rx;cases ry;exact⟨rfl,by rw[Ci];exact q⟩
def hW{r:Bool}(t:At X N sc)(ha:D0 X ρ a p)(hb:D0 X ρ b q)(sp:SeqAt.shaped p=true)(sq:SeqAt.shaped q=true)(hr:p.eqv q=r):Sg X ρ (.Compare a [.Eq] [b] pos) r:=.of (fY (Eo t sp sq) aR aR<|dF _ (by decide)<|by decide) λB F H σ Q k q=>zy ha hb k λx y F' H' x' rx ry=>⟨rx,ry,r,by rw[hr],q F' H' x'⟩
def qW{r:Bool}(t:At X N sc)(ha:D0 X ρ a p)(hb:D0 X ρ b q)(sp:SeqAt.shaped p=true)(sq:SeqAt.shaped q=true)(hr:(!p.eqv q)=r):Sg X ρ (.Compare a [.NotEq] [b] pos) r:=.of (fY (La t sp sq) aR aR<|dF _ (by decide)<|by decide) λB F H σ Q k q=>zy ha hb k λx y F' H' x' rx ry=>⟨rx,ry,r,by rw[hr],q F' H' x'⟩
structure mf(X:Cx)(sc:Scope)(x:Str)(u:Value):Prop where
 g:uY sc x
 m:X.mg x=none
 v:bootBuiltins x=some u
 n:x≠"__name__"
 d:qF x
def dS(t:At X N sc)(h:uY sc x):Gl X x:=by show X.env.scope.names.lookup x=_;rw[t.eS];exact h
variable {ds:aQ}
def sE{id:String}(t:At X N sc){r:dw->Hp->VK->Prop}(bl:mf X sc x (.builtin id))(hc:gS X (.builtin id) r)(ha:S3 X ρ (e::es) ds)(hr:∀(F H:Hp)vs(Q:VK),Sj F H->Sh X.K F vs ds->(∀v F' H',Ext ⟨F,H⟩ F' H'->Rep X.K F' v d->Q v H')->r vs H Q):Se X ρ (.Call (.Name x p) (e::es) [] pos) d:=.of (iM hc (dS t bl.g) bl.m bl.v pZ bl.n bl.d (ha.1.1 _ _)<|VG.any ha.1.2) λB F H σ Q k q=>ha.2 B F H σ _ k λvs F' H' x' rv=>hr F' H' vs Q x'.sub rv λv F2 H2 x2 r2=>q v F2 H2 (x'.t x2) r2
def tY(t:At X N sc){r:dw->Hp->VK->Prop}(bl:mf X sc x (.type T))(hc:gS X (.type T) r)(ha:S3 X ρ (e::es) ds)(hr:∀(F H:Hp)vs(Q:VK),Sj F H->Sh X.K F vs ds->(∀v F' H',Ext ⟨F,H⟩ F' H'->Rep X.K F' v d->Q v H')->r vs H Q):Se X ρ (.Call (.Name x p) (e::es) [] pos) d:=.of (mB hc (dS t bl.g) bl.m bl.v pZ bl.n bl.d (ha.1.1 _ _)<|VG.any ha.1.2) λB F H σ Q k q=>ha.2 B F H σ _ k λvs F' H' x' rv=>hr F' H' vs Q x'.sub rv λv F2 H2 x2 r2=>q v F2 H2 (x'.t x2) r2
def Sh.one{K:ce}(h:Sh K F vs [d]):∃v,vs=[v]/\Rep K F v d:=by cases h with|cons r t=>cases t;exact⟨_,rfl,r⟩
def Sh.two{K:ce}(h:Sh K F vs [d,e]):∃v u,vs=[v,u]/\Rep K F v d/\Rep K F u e:=by cases h with|cons r t=>obtain⟨u,rfl,q⟩:=t.one;exact⟨_,_,rfl,r,q⟩
def eC(t:At X N sc)(bl:mf X sc x (.builtin "len"))(ha:Vd X ρ e k xs)(Ut:Pl e:=by intro _ _;rfl):Se X ρ (.Call (.Name x p) [e] [] pos) (.int xs.length):=.of (iM sN (dS t bl.g) bl.m bl.v (ck aR eM<|Ut _ _) bl.n bl.d (Ut _ _) rfl) λB F H σ Q k' q=>ha B F H σ _ k' λl vs F' H' x' sl rl=>by
  refine⟨l,vs,rfl,?_,?_⟩;·cases k with|true=>exact .inl sl|false=>exact .inr sl
  ·rw[rl.length];exact q _ F' H' x'<|.int _
def Ic(t:At X N sc)(bl:mf X sc x (.builtin "abs"))(ha:Se X ρ e (.int i))(Ut:Pl e:=by intro _ _;rfl):Se X ρ (.Call (.Name x p) [e] [] pos) (.int i.natAbs):=sE t bl Iv (ac ha ah Ut) λF H vs Q sub r q=>by
  obtain⟨v,rfl,rv⟩:=r.one;cases rv;have e:(if i<0 then-i else i)=(i.natAbs:Int):=by split<;>lia
  exact⟨i,rfl,by rw[e];exact q _ F H (.refl sub)<|.int _⟩
def lz(t:At X N sc)(bl:mf X sc x (.builtin "max"))(ha:Se X ρ a (.int i))(hb:Se X ρ b (.int j))(hpa:Pl a:=by intro _ _;rfl)(hpb:Pl b:=by intro _ _;rfl):Se X ρ (.Call (.Name x p) [a,b] [] pos) (.int<|max i j):=sE t bl (FS t.calm) (ac ha (ac hb ah hpb) hpa) λF H vs Q sub r q=>by
  obtain⟨v,u,rfl,rv,ru⟩:=r.two;cases rv;cases ru;have e:(if j>i then j else i)=max i j:=by split<;>lia
  exact⟨i,j,rfl,by rw[e];exact q _ F H (.refl sub)<|.int _⟩
def AE(t:At X N sc)(bl:mf X sc x (.builtin "min"))(ha:Se X ρ a (.int i))(hb:Se X ρ b (.int j))(hpa:Pl a:=by intro _ _;rfl)(hpb:Pl b:=by intro _ _;rfl):Se X ρ (.Call (.Name x p) [a,b] [] pos) (.int<|min i j):=sE t bl (FR t.calm) (ac ha (ac hb ah hpb) hpa) λF H vs Q sub r q=>by
  obtain⟨v,u,rfl,rv,ru⟩:=r.two;cases rv;cases ru;have e:(if j<i then j else i)=min i j:=by split<;>lia
  exact⟨i,j,rfl,by rw[e];exact q _ F H (.refl sub)<|.int _⟩
def gX(t:At X N sc)(bl:mf X sc x (.type "int"))(ha:Se X ρ e (.bl k))(Ut:Pl e:=by intro _ _;rfl):Se X ρ (.Call (.Name x p) [e] [] pos) (.int (if k then 1 else 0)):=tY t bl FT (ac ha ah Ut) λF H vs Q sub r q=>by obtain⟨v,rfl,rv⟩:=r.one;cases rv;exact .inr ⟨k,rfl,q _ F H (.refl sub)<|.int _⟩
def EX(t:At X N sc)(bl:mf X sc x (.type "list"))(ha:Vd X ρ e k xs)(Ut:Pl e:=by intro _ _;rfl):Ss X ρ (.Call (.Name x p) [e] [] pos) xs:=.of (mB AV (dS t bl.g) bl.m bl.v (ck aR eM<|Ut _ _) bl.n bl.d (Ut _ _) rfl) λB F H σ Q k' q=>ha B F H σ _ k' λl vs F' H' x' sl rl=>by
  refine⟨l,vs,rfl,?_,λp hp=>?_⟩;·cases k with|true=>exact .inl sl|false=>exact .inr sl
  ·exact q p vs F' _ ⟨x'.sub.trans<|aU hp,x'.sh.trans<|aU hp,x'.sf,x'.nw⟩ (x'.sh.free hp) aI (x'.sub.free hp) rl
def mF(t:At X N sc)(bl:mf X sc x (.type "tuple"))(ha:Vd X ρ e true xs)(Ut:Pl e:=by intro _ _;rfl):Se X ρ (.Call (.Name x p) [e] [] pos) (.tup xs):=.of (mB xV (dS t bl.g) bl.m bl.v (ck aR eM<|Ut _ _) bl.n bl.d (Ut _ _) rfl) λB F H σ Q k' q=>ha B F H σ _ k' λl vs F' H' x' sl rl=>by refine⟨l,vs,rfl,.inl ⟨sl,λp hp=>?_⟩⟩;exact q _ _ _ (x'.grow hp)<|.tup aI<|rl.mono<|aU<|x'.sub.free hp
def PQ:D->Value|.Sy=>.type "NoneType" |.bl _=>.type "bool" |.int _=>.type "int" |.str _=>.type "str" |.tup _=>.type "tuple" |.lst _=>.type "list" |.Vg _=>.type "list" |.exc C=>.ref C |.VJ C _=>.ref C |.So _=>.type "dict" |.adr _=>.type "dict" |.TL _=>.type "dict"
def Qn{X:Cx}(sub:Sj F H)(r:Rep X.K F v d)(hd:∀ns,d≠.Vg ns)(hx:∀C ea,d≠.exc C/\d≠.VJ C ea/\d≠.adr C:=by intro _ _;exact And.intro (λh=>by cases h)<|And.intro (λh=>by cases h) λh=>by cases h)(hq:∀kvs,d≠.So kvs:=by intro _ h;cases h):ue X.K H v (PQ d):=by
 cases r with
 |Sy=>exact .Sy|bl b=>exact .bl b
 |int i=>exact .int i|str x=>exact .str x
 |tup h _=>exact .tup (sub _ _ h)|lst h _=>exact .lst<|sub _ _ h
 |Vg h=>exact absurd rfl (hd _)|exc h=>exact absurd rfl (hx _ 0).1
 |VJ h=>exact absurd rfl (hx _ _).2.1|adr a=>exact absurd rfl (hx a 0).2.2
 |TL h=>exact .dK (sub _ _ h)|So h _=>exact absurd rfl<|hq _
def Na{X:Cx}{d:D}(hx:∀C ea,d≠.exc C/\d≠.VJ C ea/\d≠.adr C)(hd:∀ns,d≠.Vg ns)(hq:∀kvs,d≠.So kvs)(hk:PySem.W.kitOne X.K (PQ d) (.type T)=some k):gS X (.builtin "isinstance") (λxs H Q=>∃x F,xs=[x,.ty T]/\Sj F H/\Rep X.K F x d/\Q (.bl k) H):=by intro pins s σ H xs us Q I r h;obtain⟨v,F,rfl,sub,rv,q⟩:=h;obtain⟨u,w,rfl,ru,U1⟩:=yn r;cases(show w=Value.type T from U1);exact FE I ru (Qn sub rv hd hx hq) hk λtk=>⟨.bl k,H,I.tok tk,rfl,q⟩
def tX(t:At X N sc)(bl:mf X sc x (.builtin "isinstance"))(bt:mf X sc y (.type T))(ha:Se X ρ a d)(hk:PySem.W.kitOne X.K (PQ d) (.type T)=some k)(hd:∀ns,d≠.Vg ns:=by intro _ h;cases h)(hpa:Pl a:=by intro _ _;rfl)(hx:∀C ea,d≠.exc C/\d≠.VJ C ea/\d≠.adr C:=by intro _ _;exact And.intro (λh=>by cases h)<|And.intro (λh=>by cases h) λh=>by cases h)(hq:∀kvs,d≠.So kvs:=by intro _ h;cases h):Se X ρ (.Call (.Name x p) [a,.Name y py] [] pos) (.bl k):=.of (iM (Na hx hd hq hk) (dS t bl.g) bl.m bl.v (ck aR (ck (Ao (v:=.ty T) (dS t bt.g) bt.m bt.v rfl bt.n bt.d) eM)<|hpa _ _) bl.n bl.d (hpa _ _) rfl) λB F H σ Q k' q=>ha B F H σ _ k' λv F' H' x' r=>⟨v,F',rfl,x'.sub,r,q _ F' H' x'<|.bl k⟩
def Sh.bls{K:ce}:∀{bs:List Bool}{vs:dw},Sh K F vs (bs.map D.bl)->vs=bs.map V.bl
 |[],_,h=>by cases h;rfl
 |b::bs,_,h=>by cases h with|cons r t=>cases r;rw[aP,Sh.bls t]
def xa:∀{bs:List Bool}{us:ir},Vals (bs.map V.bl) us->LSm.BoolsAre us bs
 |[],_,r=>by cases r;exact .nil
 |b::bs,_,r=>by rw[aP]at r;cases r with|cons r1 r2=>cases(show _=Value.bool b from r1);exact .cons b<|xa r2
def FV{X:Cx}(hc:X.calm=true):gS X (.builtin "all") (λxs H Q=>∃(l:Addr)(bs:List Bool),xs=[.ref l]/\Ts X.K H l (bs.map V.bl)/\Q (.bl<|bs.all id) H):=by
 intro pins s σ H xs us Q I r h;obtain⟨l,bs,rfl,sl,q⟩:=h;obtain⟨u,rfl,ru⟩:=kT r;cases(show u=Value.ref l from ru);obtain⟨vs,rv,pl,hz⟩:=I.list sl;have hb:=xa rv;have hl:=pl.isList;have S1:l<s.heap.objs.size:=by obtain⟨_,e,_⟩:=hl;exact aH e
 refine call_all_walk<|NS hl ?_;refine⟨s.heap.objs.size,[s.heap.objs.size,l],[s.heap.objs.size],vs.toArray.size,_,_,λi=>(bs[i]?).getD true,rfl,Walks.list (A:=X.A.in1) (I.ok.hd hc) _ l (bw S1) vs.toArray,⟨⟨_,Heap.get?_push_size _ rfl,rfl,rfl⟩,hl.push _⟩,λi v s' Q' E' hP hQ=>?_,λh' tk hk=>?_⟩;·obtain⟨b,e,rfl⟩:=hb.get i v (by simpa using hP);simp only[e,Option.getD_some]at hQ;exact eF hQ
 ·have e:((List.range vs.toArray.size).all λi=>(bs[i]?).getD true)=bs.all id:=by rw[aE,hb.length];exact LSm.range_all bs
  rw[e];exact⟨.bl _,H,I.kept<|LSm.kept_iter hk,rfl,q⟩
def FU{X:Cx}(hc:X.calm=true):gS X (.builtin "any") (λxs H Q=>∃(l:Addr)(bs:List Bool),xs=[.ref l]/\Ts X.K H l (bs.map V.bl)/\Q (.bl<|bs.any id) H):=by
 intro pins s σ H xs us Q I r h;obtain⟨l,bs,rfl,sl,q⟩:=h;obtain⟨u,rfl,ru⟩:=kT r;cases(show u=Value.ref l from ru);obtain⟨vs,rv,pl,hz⟩:=I.list sl;have hb:=xa rv;have hl:=pl.isList;have S1:l<s.heap.objs.size:=by obtain⟨_,e,_⟩:=hl;exact aH e
 refine call_any_walk<|NS hl ?_;refine⟨s.heap.objs.size,[s.heap.objs.size,l],[s.heap.objs.size],vs.toArray.size,_,_,λi=>(bs[i]?).getD false,rfl,Walks.list (A:=X.A.in1) (I.ok.hd hc) _ l (bw S1) vs.toArray,⟨⟨_,Heap.get?_push_size _ rfl,rfl,rfl⟩,hl.push _⟩,λi v s' Q' E' hP hQ=>?_,λh' tk hk=>?_⟩;·obtain⟨b,e,rfl⟩:=hb.get i v (by simpa using hP);simp only[e,Option.getD_some]at hQ;exact eF hQ
 ·have e:((List.range vs.toArray.size).any λi=>(bs[i]?).getD false)=bs.any id:=by rw[aE,hb.length];exact LSm.range_any bs
  rw[e];exact⟨.bl _,H,I.kept<|LSm.kept_iter hk,rfl,q⟩
def AI(t:At X N sc){bs:List Bool}(bl:mf X sc x (.builtin "all"))(ha:Vd X ρ e true (bs.map D.bl))(Ut:Pl e:=by intro _ _;rfl):Se X ρ (.Call (.Name x p) [e] [] pos) (.bl<|bs.all id):=.of (iM (FV t.calm) (dS t bl.g) bl.m bl.v (ck aR eM<|Ut _ _) bl.n bl.d (Ut _ _) rfl) λB F H σ Q k' q=>ha B F H σ _ k' λl vs F' H' x' sl rl=>by have e:=rl.bls;subst e;exact⟨l,bs,rfl,sl,q _ F' H' x'<|.bl _⟩
def Nu(t:At X N sc){bs:List Bool}(bl:mf X sc x (.builtin "any"))(ha:Vd X ρ e true (bs.map D.bl))(Ut:Pl e:=by intro _ _;rfl):Se X ρ (.Call (.Name x p) [e] [] pos) (.bl<|bs.any id):=.of (iM (FU t.calm) (dS t bl.g) bl.m bl.v (ck aR eM<|Ut _ _) bl.n bl.d (Ut _ _) rfl) λB F H σ Q k' q=>ha B F H σ _ k' λl vs F' H' x' sl rl=>by have e:=rl.bls;subst e;exact⟨l,bs,rfl,sl,q _ F' H' x'<|.bl _⟩
def GN(K:ce)(C:aQ->D->Prop):Sp:=λvs H Q _=>∃F ds d,Sj F H/\Sh K F vs ds/\C ds d/\∀v F' H',Ext ⟨F,H⟩ F' H'->Rep K F' v d->Q v H'
def Callee(X:Cx)(x:Str)(C:aQ->D->Prop):Prop:=∃(f:Addr)(fd:FuncData)(ps:cH)(k:Nat),dQ X.prog X.w X.K X.mg X.base ja k f fd ps (GN X.K C)/\SR k X.A/\X.mg x=some (.ref f)/\PySem.W.keepIn X.K (.ref f)=true/\Binds X.K fd ps []
def aG(t:At X N sc){C:aQ->D->Prop}(h:Callee X x C)(ha:S3 X ρ (e::es) ds)(hC:C ds d)(hg:uY sc x:=by rfl)(T7:qF x:=by rfl):Se X ρ (.Call (.Name x p) (e::es) [] pos) d:=by obtain⟨f,fd,ps,k,F,hr,hm,hk,hb⟩:=h;have pz:ia ja X E0:=qx;refine .of (j8 F hr (dS t hg) hm hk hb .nil pz pZ T7 (ha.1.1 _ _)<|VG.any ha.1.2) λB F' H σ Q k' q=>ha.2 B F' H σ _ k' λvs F1 H1 x1 r1=>?_;refine⟨F1,ds,d,x1.sub,by rw[bC];exact r1,hC,λv F2 H2 x2 r2=>q v F2 H2 (x1.t x2) r2⟩
def dE(sc:Scope):Env:={scope:=sc,locals:=0,globals:=0,cells:=[],qual:="",func:=none,code:=.none,frame:=none,builtins:=0}
def z8{env W5:Env}(h:env.scope=W5.scope):swappedStores ts v env=swappedStores ts v W5:=by unfold swappedStores Env.blockKind Env.kindOf;rw[h]
def L9{tg:Option Expr}{env W5:Env}(h:env.scope=W5.scope):swapsWith v tg n env=swapsWith v tg n W5:=by unfold swapsWith Env.blockKind Env.kindOf;rw[h]
variable {st:Stmt}{bJ:List Stmt}
def bQ:Sf X ρ [] (.nx ρ):=.of JH λB F H σ E k q=>q F H σ k<|.refl _
def au(h1:SQ X ρ st (.nx ρ'))(h2:Sf X ρ' bJ o):Sf X ρ (st::bJ) o:=.of (gP vW dz) λB F H σ E k q=>h1 B F H σ _ k λF1 H1 σ1 k1 s1=>h2 B F1 H1 σ1 E k1<|q.later s1
def fm(h1:SQ X ρ st (.rt d)):Sf X ρ (st::bJ) (.rt d):=.of (gP vW dz) λB F H σ E k q=>h1 B F H σ _ k q
def aw(h1:SQ X ρ st o):Sf X ρ [st] o:=.of (pL vW) λB F H σ E k q=>h1 B F H σ E k q
def eE{ρ:cA}(i:Nat)(hi:ρ[i]?=some (.own xs))(h:Sf X (ρ.set i<|.val<|.lst xs) bJ o):Sf X ρ bJ o:=λB F H σ E k q=>by obtain⟨F',sf,k'⟩:=k.W4 hi;exact h B F' H σ E k'<|q.later sf
def Kv{ρ:cA}(i:Nat)(h:Sf X (ρ.set i .un) bJ o):Sf X ρ bJ o:=λB F H σ E k q=>h B F H σ E (k.drop i) q
def bg(h:Se X ρ e d):SQ X ρ (.Return (some e) pos) (.rt d):=.of (vX aR) λB F H σ E k q=>h B F H σ _ k λv F' H' x r=>q v F' H' (k.toExt.trans x) r
def dD(hc:Sg X ρ c true)(h:Sf X ρ ss o):SQ X ρ (.If c ss us pos) o:=.of (uu lO dz dz) λB F H σ E k q=>hc B F H σ _ k λF1 H1 x1=>by rw[ax rfl];exact h B F1 H1 σ E (k.ext x1)<|q.later x1.sf
def cB(hc:Sg X ρ c false)(h:Sf X ρ us o):SQ X ρ (.If c ss us pos) o:=.of (uu lO dz dz) λB F H σ E k q=>hc B F H σ _ k λF1 H1 x1=>by rw[av ay];exact h B F1 H1 σ E (k.ext x1)<|q.later x1.sf
def Gn{x:Str}[Vh X]:X.fn x=true\/X.env.scope.names.lookup x=some .local:=.inl<|Vh.fn x
def At.loc{x:Str}(t:At X N sc)(hx:nJ sc x=true):NO X.env.scope x:=by rw[t.eS];exact HB hx
def At.ix{i:Nat}(t:At X N sc)(h:N[i]?=some x):X.N[i]?=some x:=by rw[t.eN];exact h
def aX{pos:Pos}[Vh X](t:At X N sc)(i:Nat)(h:Se X ρ e d)(hi:N[i]?=some x:=by rfl)(hx:nJ sc x=true:=by rfl)(hs:swapsWith e (some<|.Name x pos') pos.line X.env=pure false:=by rfl):SQ X ρ (.Assign [.Name x pos'] e pos) (.nx<|ρ.set i<|.val d):=.of (oz (i:=i) t.nd (t.ix hi) (t.loc hx) aR hs Gn) λB F H σ E k q=>h B F H σ _ k λv F' H' x' r=>q F' H' _ ((k.ext x').Ta i r) x'.sf
def iH{pos:Pos}[Vh X](t:At X N sc)(i:Nat)(h:Ss X ρ e xs)(hi:N[i]?=some x:=by rfl)(hx:nJ sc x=true:=by rfl)(hs:swapsWith e (some<|.Name x pos') pos.line X.env=pure false:=by rfl):SQ X ρ (.Assign [.Name x pos'] e pos) (.nx<|ρ.set i<|.own xs):=.of (oz (i:=i) t.nd (t.ix hi) (t.loc hx) aR hs Gn) λB F H σ E k q=>h B F H σ _ k λp vs F' H' x' h0 hp hf r=>q F' H' _ ((k.ext x').V3 i hp hf (k.sh.free h0) (k.noOwn h0) r) x'.sf
def GS{ρ:cA}[Vh X](t:At X N sc)(i:Nat){g:Int->Int->Int}{C:Int->Int->Prop}(ho:mK X (inplaceOp op) (rI C λi j=>.int<|g i j))(hr:ρ[i]?=some (.val<|.int n))(h:Se X ρ e (.int m))(hc:C n m)(hi:N[i]?=some x:=by rfl)(hx:nJ sc x=true:=by rfl):SQ X ρ (.AugAssign (.Name x pos') op e pos) (.nx<|ρ.set i<|.val<|.int<|g n m):=.of (Ms (i:=i) t.nd (t.ix hi) (t.loc hx) aR (show P8 X op (rI C λi j=>.int<|g i j)from ho) Gn) λB F H σ E k q=>by obtain⟨v,h1,h2⟩:=k.vals i _ hr;cases h2;exact⟨_,h1,h B F H σ _ k λv F' H' x' r=>by cases r;exact⟨n,m,rfl,rfl,hc,q F' H' _ ((k.ext x').Ta i<|.int _) x'.sf⟩⟩
def B6:mK X (inplaceOp .Add) (rI (λ_ _=>True) λi j=>.int<|i+j):=OU λ_ _ _ _ _ _ _ _ q=>iadd_int q
def HP:mK X (inplaceOp .Sub) (rI (λ_ _=>True) λi j=>.int<|i-j):=OU λ_ _ _ _ _ _ _ _ q=>isub_int q
def GT{ρ:cA}[Vh X](t:At X N sc)(i:Nat)(hr:ρ[i]?=some (.val<|.int n))(h:Se X ρ e (.int m))(hi:N[i]?=some x:=by rfl)(hx:nJ sc x=true:=by rfl):SQ X ρ (.AugAssign (.Name x pos') .Add e pos) (.nx<|ρ.set i<|.val<|.int<|n+m):=GS t i B6 hr h trivial hi hx
def BK{ρ:cA}[Vh X](t:At X N sc)(i:Nat)(hr:ρ[i]?=some (.val<|.int n))(h:Se X ρ e (.int m))(hi:N[i]?=some x:=by rfl)(hx:nJ sc x=true:=by rfl):SQ X ρ (.AugAssign (.Name x pos') .Sub e pos) (.nx<|ρ.set i<|.val<|.int<|n-m):=GS t i HP hr h trivial hi hx
def bv[Vh X](t:At X N sc)(i:Nat)(hi:N[i]?=some x:=by rfl)(hx:nJ sc x=true:=by rfl):Vi X ρ (.Name x pos) d (ρ.set i<|.val d):=.of (u9 (i:=i) t.nd (t.ix hi) (t.loc hx) Gn) λB F H σ v Q k r q=>q F H _ (k.Ta i r)<|.refl _
def pS[Vh X](t:At X N sc)(i j:Nat)(hi:N[i]?=some x:=by rfl)(hj:N[j]?=some y:=by rfl)(hx:nJ sc x=true:=by rfl)(hy:nJ sc y=true:=by rfl):Vi X ρ (.Tuple [.Name x px,.Name y py] kt pos) (.tup [u,v]) ((ρ.set i<|.val u).set j<|.val v):=.of (Hh t.calm<|v6 (u9 (i:=i) t.nd (t.ix hi) (t.loc hx) Gn)<|v6 (u9 (i:=j) t.nd (t.ix hj) (t.loc hy) Gn) Ew) λB F H σ w Q k r q=>by cases r with|tup h rl=>obtain⟨v1,v2,rfl,r1,r2⟩:=rl.two;exact⟨_,_,rfl,Uu.of<|k.sub _ _ h,rfl,_,_,rfl,_,_,rfl,rfl,q F H _ ((k.Ta i r1).Ta j r2)<|.refl _⟩
def df(t:At X N sc)(i:Nat)(hi:N[i]?=some x:=by rfl)(hx:sc.names.lookup x=some .local:=by rfl):Ve X ρ (.Name x pos) d (ρ.set i<|.val d):=.of (u9 (i:=i) t.nd (t.ix hi) (by rw[t.eS];exact .inl hx)<|by rw[t.eS];exact .inr hx) λB F H σ v Q k r q=>q _ (k.Ta i r) λp h=>h.Ta i _ d
def la{pos:Pos}(t:At X N sc)(h:Se X ρ e d)(hg:Vi X ρ tg d ρ')(hs:swapsWithSole [tg] e pos.line X.env=pure false:=by rfl)(hw:swappedStores [tg] e (dE sc)=pure none:=by rfl)(h1:(assignEach [tg] X.env).map (·.2)=[assign tg X.env]:=by rfl):SQ X ρ (.Assign [tg] e pos) (.nx ρ'):=.of (Hc aR Fx hs ((z8 (show X.env.scope=(dE sc).scope from t.eS)).trans hw) h1) λB F H σ E k q=>h B F H σ _ k λv F1 H1 x1 r1=>hg B F1 H1 σ v _ (k.ext x1) r1 λF2 H2 σ2 k2 s2=>q F2 H2 σ2 k2<|x1.sf.trans s2
def tJ{i:Nat}{Q:VK}{ρ:cA}(t:At X N sc)(hr:ρ[i]?=some (.own xs))(hN:N[i]?=some x)(hv:fO sc x=true)(hx:cZ x=true)(k:Ok X.K B F H σ ρ)(h:∀p vs,σ[i]?=some (some<|.ref p)->H p=some (.lst vs)->Sh X.K F vs xs->Q (.ref p) H):wE X (.Name x pos) σ H Q:=.mk λpins s I=>by obtain⟨p,vs,h1,h2,h3,h4,h5⟩:=k.Tj i xs hr;exact tG t hN hv hx pins s σ H Q I ⟨_,h1,h p vs h1 h2 h5⟩
def mz{apos Sr:Pos}{ρ:cA}{pos:Pos}(t:At X N sc)(i:Nat)(hr:ρ[i]?=some (.own xs))(h:Se X ρ e d)(hz:xs.length<sizeLine)(hN:N[i]?=some y:=by rfl)(hv:fO sc y=true:=by rfl)(hx:cZ y=true:=by rfl)(hs:Fe e [] X.env:=by rfl)(S4:(apos.endLine==Sr.line)=true:=by rfl)(U2:vv Sr [] X.env:=by rfl)(Vl:Jc Sr [e] X.env:=by rfl)(V7:swapsWith (.Call (.Attribute (.Name y p) "append" apos) [e] [] Sr) none pos.line X.env=pure false:=by rfl):SQ X ρ (.Expr (.Call (.Attribute (.Name y p) "append" apos) [e] [] Sr) pos) (.nx<|ρ.set i<|.own<|xs++[d]):=.of (m9 (Hm dL kl kj pO aR (ck aR eM hs) rfl Vl S4 hs U2) V7) λB F H σ E k q=>tJ t hr hN hv hx k λl vs h1 h2 h3=>⟨.inl ⟨rfl,_,Ts.of h2⟩,h B F H σ _ k λv F' H' x' r=>by have k':=k.ext x';have ZR:=x'.sh _ _ h2;refine⟨l,vs,v,rfl,rfl,ZR,by rw[h3.length];exact hz,?_⟩;exact q F' _ _ (k'.VE (vs:=vs) hr h1<|(h3.mono x'.sf).append<|.cons r .nil) x'.sf⟩
def K9{apos Sr:Pos}{ρ:cA}{pos:Pos}(t:At X N sc)(i:Nat)(hr:ρ[i]?=some (.own xs))(hz:xs≠[])(hN:N[i]?=some y:=by rfl)(hv:fO sc y=true:=by rfl)(hx:cZ y=true:=by rfl)(S4:(apos.endLine==Sr.line)=true:=by rfl)(V7:swapsWith (.Call (.Attribute (.Name y p) "pop" apos) [] [] Sr) none pos.line X.env=pure false:=by rfl):SQ X ρ (.Expr (.Call (.Attribute (.Name y p) "pop" apos) [] [] Sr) pos) (.nx<|ρ.set i<|.own xs.dropLast):=.of (m9 (An dL yh yg Dj aR rfl S4) V7) λB F H σ E k q=>tJ t hr hN hv hx k λl vs h1 h2 h3=>⟨.inl ⟨rfl,_,Ts.of h2⟩,by have hl:=h3.length;have UQ:vs≠[]:=λz=>hz<|bx (by rw[<-hl,z];rfl);obtain⟨w,hw⟩:∃w,vs[vs.length-1]?=some w:=⟨vs[vs.length-1]'(by have:=List.length_pos_iff.mpr UQ;lia),List.getElem?_eq_getElem _⟩;exact⟨l,vs,w,rfl,rfl,h2,hw,q F _ _ (k.VE (vs:=vs) hr h1 h3.dropLast)<|.refl _⟩⟩
def Kx{ρ:cA}(t:At X N sc)(i:Nat)(hr:ρ[i]?=some (.own xs))(h:Se X ρ b (.int n))(hj:EI xs.length n=some j)(hN:N[i]?=some y:=by rfl)(hv:fO sc y=true:=by rfl)(hx:cZ y=true:=by rfl)(ha:∀v,assign (.Subscript (.Name y p) b pos) X.env v=(do
   let ov <-holding [v] (eval (.Name y p) X.env)
   let iv <-holding [v,ov] (eval b X.env)
   standAt pos
   holding [v,ov,iv] (setItem ov iv v)
   release [v,ov,iv] []):=by intro _;rfl):Vi X ρ (.Subscript (.Name y p) b pos) d (ρ.set i (.own (xs.set j d))):=
 .of (Hi aR aR BJ ha) λB F H σ v Q k r q=>
  tJ t hr hN hv hx k λl vs h1 h2 h3=>h B F H σ _ k λw F' H' x' U1=>by
   cases U1
   have ZR:=x'.sh _ _ h2
   refine⟨l,vs,n,j,rfl,rfl,ZR,by rw[h3.length];exact hj,?_⟩
   exact q F' _ _ ((k.ext x').VE (vs:=vs) hr h1<|(h3.mono x'.sf).set (r.mono x'.sf) j) x'.sf
def FJ:Pu X (OL X.K):=by
 intro pins s σ H o i ov iv Q I ro ri h;obtain⟨p,xs,n,z,rfl,rfl,hq,he,q⟩:=h;cases ro;obtain⟨t,rfl⟩:=ri;obtain⟨its,r,pl,hz⟩:=I.list hq;obtain⟨j,h1,h2,h3,h4,h5⟩:=vm he;obtain⟨w,ew,U1⟩:=r.get h2;have hl:=r.length;have hn:=oH;have fin:EP X pins σ Q w s:=⟨z,H,I,U1,q⟩;by_cases h0:0<=n
 ·have hj:n.toNat=j:=by rw[Qf h0 h5]at h1;exact bz h1
  exact wpAny_getItem_list pl.isList h0 (by lia) (by rw[hj];simpa using ew) fin
 ·have hj:(n+(its.toArray.size:Int)).toNat=j:=by rw[NT (by lia) h4]at h1;rw[aE,<-hl];exact bz h1
  exact wpAny_getItem_list_neg pl.isList (by lia) (by rw[aE]<;>lia) (by lia) (by rw[hj];simpa using ew) fin
def Fs{j:Nat}{ρ:cA}(t:At X N sc)(i:Nat){g:Int->Int->Int}{C:Int->Int->Prop}(ho:mK X (inplaceOp op) (rI C λi j=>.int<|g i j))(hr:ρ[i]?=some (.own xs))(hb:Se X ρ b (.int n))(hj:EI xs.length n=some j)(hu:xs[j]?=some (.int u))(he:Se X ρ e (.int m))(hc:C u m)(hN:N[i]?=some y:=by rfl)(hv:fO sc y=true:=by rfl)(hx:cZ y=true:=by rfl)(ha:∀ov iv new,augStore b ov iv new=(do holding [new,ov,iv] (setItem ov iv new);release [new,ov,iv] [];pure .next):=by intros;rfl):SQ X ρ (.AugAssign (.Subscript (.Name y p) b Y5) op e pos) (.nx<|ρ.set i<|.own<|xs.set j<|.int<|g u m):=.of (JJ aR aR FJ aR (show P8 X op (rI C λi j=>.int<|g i j)from ho) BJ ha) λB F H σ E k q=>tJ t hr hN hv hx k λl vs h1 h2 h3=>hb B F H σ _ k λw F1 H1 x1 U1=>by
   cases U1;have h21:=x1.sh _ _ h2;have W2:kS xs n=some (.int u):=by unfold kS;rw[hj];exact hu
   obtain⟨w,hw1,hw2⟩:=(h3.mono x1.sf).at W2;cases hw2;refine⟨l,vs,n,_,rfl,rfl,Ts.of h21,hw1,he B F1 H1 σ _ (k.ext x1) λw F2 H2 x2 rw2=>?_⟩;cases rw2;have h22:=x2.sh _ _ h21;refine⟨u,m,rfl,rfl,hc,l,vs,n,j,rfl,rfl,h22,by rw[h3.length];exact hj,?_⟩;exact q F2 _ _ ((k.ext<|x1.t x2).VE (vs:=vs) hr h1<|((h3.mono x1.sf).mono x2.sf).set (.int _) j) (x1.t x2).sf
end
structure wI(X:Cx)(tg e:Expr)(σ:St)(H:Hp)(R:It->Hp->Prop):Prop where
 go:∀(pins:fR)(s:Shared),Inv X pins σ H s->dR X (eval e X.env) (λv s1=>dR X (pyIter v) (P9 X pins σ tg R) X.xe s1) X.xe s
instance zH6 {X:Cx} {tg e:Expr} {σ:St} {H:Hp} {R:It->Hp->Prop}:CoeFun (wI X tg e σ H R) (λ_=>∀(pins:fR)(s:Shared),Inv X pins σ H s->dR X (eval e X.env) (λv s1=>dR X (pyIter v) (P9 X pins σ tg R) X.xe s1) X.xe s):=⟨wI.go⟩
def OP:PI X tg e (wI X tg e):=λpins s _ _ _ I h=>h pins s I
def uh(K:ce)(J:It)(F:Hp)(ds:aQ):Prop:=∀(i:Nat)(F2 H2:Hp),Sj F F2->Sj F2 H2->(∀d,ds[i]?=some d->J.go i H2/\∀x H',J.yld i H2 x H'->∃F',Ext ⟨F2,H2⟩ F' H'/\Rep K F' x d)/\(ds.length<=i->J.stop i H2)
def WK(X:Cx)(ρ:cA)(tg e:Expr)(ds:aQ):Prop:=∀(B:B0)(F H:Hp)(σ:St)(R:It->Hp->Prop),Ok X.K B F H σ ρ->(∀J F' H',Ext ⟨F,H⟩ F' H'->uh X.K J F' ds->R J H')->wI X tg e σ H R
def WK.of(h:PI X tg e t)(r:∀(B:B0)(F H:Hp)(σ:St)(R:It->Hp->Prop),Ok X.K B F H σ ρ->(∀J F' H',Ext ⟨F,H⟩ F' H'->uh X.K J F' ds->R J H')->t σ H R):WK X ρ tg e ds:=λB F H σ R k q=>.mk λpins s I=>h pins s σ H R I<|r B F H σ R k q
def J9{K:ce}(hs:∀H,Sj F H->Ts K H l vs)(r:Sh K F vs ds):uh K (Rq K l) F ds:=λi F2 H2 s1 s2=>⟨λd hd=>by obtain⟨v,hv,rv⟩:=r.get hd;have sq:=hs H2<|s1.trans s2;refine⟨⟨vs,v,sq,hv⟩,λx H' y=>?_⟩;obtain⟨rfl,y⟩:=y;have e:=y vs sq;rw[hv]at e;cases e;exact⟨F2,.refl s2,rv.mono s1⟩,λh=>⟨vs,hs H2<|s1.trans s2,by rw[r.length];exact h⟩⟩
def M6{K:ce}(hs:∀H,Sj F H->Uu K H l vs)(r:Sh K F vs ds):uh K (Ro K l) F ds:=λi F2 H2 s1 s2=>⟨λd hd=>by obtain⟨v,hv,rv⟩:=r.get hd;have sq:=hs H2<|s1.trans s2;refine⟨⟨vs,v,sq,hv⟩,λx H' y=>?_⟩;obtain⟨rfl,y⟩:=y;have e:=y vs sq;rw[hv]at e;cases e;exact⟨F2,.refl s2,rv.mono s1⟩,λh=>⟨vs,hs H2<|s1.trans s2,by rw[r.length];exact h⟩⟩
def qZ(h:Se X ρ e (.lst ds)):WK X ρ tg e ds:=.of (Ev aR) λB F H σ R k q=>h B F H σ _ k λv F' H' x r=>by cases r with|lst hf rl=>exact⟨_,rfl,⟨_,Ts.of<|x.sub _ _ hf⟩,q _ F' H' x<|J9 (λH2 s2=>Ts.of<|s2 _ _ hf) rl⟩
def Ih(h:Se X ρ e (.tup ds)):WK X ρ tg e ds:=.of (Mt aR) λB F H σ R k q=>h B F H σ _ k λv F' H' x r=>by cases r with|tup hf rl=>exact⟨_,rfl,⟨_,Uu.of<|x.sub _ _ hf⟩,q _ F' H' x<|M6 (λH2 s2=>Uu.of<|s2 _ _ hf) rl⟩
def dY(lo:Int)(n:Nat):aQ:=(List.range n).map λ(i:Nat)=>D.int<|lo+(i:Int)
def HL{K:ce}{lo:Int}:uh K (Qc lo n) F (dY lo n):=λi F2 H2 s1 s2=>⟨λd hd=>by
  unfold dY at hd;rw[List.getElem?_map]at hd;have hi:i<n:=by
   by_cases h:i<n;·exact h
   ·rw[List.getElem?_eq_none<|by simpa using h]at hd;cases hd
  rw[List.getElem?_range hi]at hd;cases hd;refine⟨hi,λx H' y=>?_⟩;obtain⟨rfl,rfl⟩:=y;exact⟨F2,.refl s2,.int _⟩,λh=>by
   have h':n<=i:=by simpa[dY]using h
   exact h'⟩
def fz(t:At X N sc)(bl:mf X sc "range" (.type "range"))(h:Se X ρ a (.int j))(h1: -(2 ^ 62)<=j)(h2:j<2 ^ 62)(hs:Pl a:=by intro _ _;rfl):WK X ρ tg (.Call (.Name "range" p) [a] [] pos) (dY 0 j.toNat):=.of (y3 (dS t bl.g) bl.m (ck aR eM<|hs _ _)<|hs _ _) λB F H σ R k q=>h B F H σ _ k λv F' H' x r=>by cases r;exact⟨j,rfl,h1,h2,q _ F' H' x HL⟩
inductive SJ(X:Cx)(tg:Expr)(body:List Stmt):aQ->cA->Out->Prop where
 |nil {ρ:cA}:SJ X tg body [] ρ (.nx ρ)
 |cons {d:D} {ds:aQ} {ρ ρ1 ρ2:cA} {o:Out}:Vi X ρ tg d ρ1->Sf X ρ1 body (.nx ρ2)->SJ X tg body ds ρ2 o->SJ X tg body (d::ds) ρ o
 |ret {d r:D} {ds:aQ} {ρ ρ1:cA}:Vi X ρ tg d ρ1->Sf X ρ1 body (.rt r)->SJ X tg body (d::ds) ρ (.rt r)
def io{i:Nat}{α:Type}{xs ys:List α}{x:α}(h:xs.drop i=x::ys):xs[i]?=some x/\xs.drop (i+1)=ys/\i<xs.length:=by
 have hi:i<xs.length:=by
  by_cases q:i<xs.length;·exact q
  ·rw[mn<|by lia]at h;cases h
 have e:=jO hi;rw[h]at e;injection e with e1 e2;exact⟨by rw[List.getElem?_eq_getElem hi,e1],e2.symm,hi⟩
def ik(t:At X N sc)(hi:WK X ρ tg e ds)(h:SJ X tg body ds ρ o)(hs:∀x,foldedSetIterable e X.env x=pure x:=by intro _;rfl):SQ X ρ (.For tg e body [] pos) o:=.of (Db t.pass t.calm OP Fx dz hs) λB F H σ E k q=>hi B F H σ _ k λJ F1 H1 x1 J1=>by
  refine⟨λi m σ H=>∃ρ' F',Ok X.K B F' H σ ρ'/\Sj F1 F'/\SJ X tg body (ds.drop i) ρ' o/\m=ds.length-i,⟨ds.length,ρ,F1,k.ext x1,.refl _,by simpa using h,by simp⟩,?_⟩;rintro i m σ H ⟨ρ',F',k',sf,run,rfl⟩;have q':UB X.K B F' E o:=q.later<|x1.sf.trans sf;have J2:=J1 i F' H sf k'.sub;generalize e1:ds.drop i=bJ at run;cases run with
  |nil=>
   have hl:ds.length<=i:=by have:=aV List.length e1;rw[bP,iy]at this;lia
   exact .inl ⟨J2.2 hl,q' F' H σ k'<|.refl _⟩
  |@cons d0 X5 ρ0 ρ1 ρ2 o0 g b r=>obtain⟨hd,hr,S1⟩:=io e1;obtain⟨go,yl⟩:=J2.1 _ hd;refine .inr ⟨go,λσ' H'=>∃Va,Ok X.K B Va H' σ' ρ2/\Sj F1 Va,λσ' H' ⟨Va,Xx,UO⟩=>⟨ds.length-(i+1),by lia,_,Va,Xx,UO,by rw[hr];exact r,rfl⟩,λx H' y=>?_⟩;obtain⟨F2,x2,rx⟩:=yl x H' y;refine g B F2 H' σ x _ (k'.ext x2) rx λF3 H3 σ3 k3 s3=>b B F3 H3 σ3 _ k3 λF4 H4 σ4 k4 s4=>⟨F4,k4,sf.trans<|x2.sf.trans<|s3.trans s4⟩
  |ret g b=>obtain⟨hd,hr,S1⟩:=io e1;obtain⟨go,yl⟩:=J2.1 _ hd;refine .inr ⟨go,λ_ _=>False,λσ' H' z=>z.elim,λx H' y=>?_⟩;obtain⟨F2,x2,rx⟩:=yl x H' y;exact g B F2 H' σ x _ (k'.ext x2) rx λF3 H3 σ3 k3 s3=>b B F3 H3 σ3 _ k3 q
def SJ.of(body:List Stmt)(R:Nat->cA):∀(ds:aQ)(i:Nat),(∀(j:Nat)d,ds[j]?=some d->∃ρ1,Vi X (R<|i+j) tg d ρ1/\Sf X ρ1 body (.nx<|R<|i+j+1))->SJ X tg body ds (R i) (.nx<|R<|i+ds.length)
 |[],i,_=>.nil
 |d::ds,i,h=>by
  obtain⟨ρ1,h1,h2⟩:=h 0 d rfl;refine .cons h1 h2 ?_;have r:=SJ.of body R ds (i+1) λj e he=>by have:=h (j+1) e (by simpa using he);rw[show i+1+j=i+(j+1)by lia];exact this
  rw[show i+(d::ds).length=i+1+ds.length by simp;lia];exact r
inductive T3(X:Cx)(c:Expr)(body:List Stmt):Nat->cA->Out->Prop where
 |stop {ρ:cA}:Sg X ρ c false->T3 X c body 0 ρ (.nx ρ)
 |step {n:Nat} {ρ ρ1:cA} {o:Out}:Sg X ρ c true->Sf X ρ body (.nx ρ1)->T3 X c body n ρ1 o->T3 X c body (n+1) ρ o
 |ret {ρ:cA} {r:D}:Sg X ρ c true->Sf X ρ body (.rt r)->T3 X c body 0 ρ (.rt r)
def fE(t:At X N sc)(h:∃n,T3 X c body n ρ o):SQ X ρ (.While c body [] pos) o:=.of (BO t.pass lO dz) λB F H σ E k q=>by
  obtain⟨n,h⟩:=h;refine⟨λm σ H=>∃ρ' F',Ok X.K B F' H σ ρ'/\Sj F F'/\T3 X c body m ρ' o,⟨n,ρ,F,k,.refl _,h⟩,?_⟩;rintro m σ H ⟨ρ',F',k',sf,run⟩;cases run with
  |stop hc=>refine hc B F' H σ _ k' λF1 H1 x1=>?_;rw[av ay];exact q F1 H1 σ (k'.ext x1)<|sf.trans x1.sf
  |@step n0 ρ0 ρ1 o0 hc hb r=>refine hc B F' H σ _ k' λF1 H1 x1=>?_;rw[ax rfl];exact⟨λσ' H'=>∃Va,Ok X.K B Va H' σ' ρ1/\Sj F Va,λσ' H' ⟨Va,Xx,UO⟩=>⟨_,fB _,_,Va,Xx,UO,r⟩,hb B F1 H1 σ _ (k'.ext x1) λF2 H2 σ2 k2 s2=>⟨F2,k2,sf.trans<|x1.sf.trans s2⟩⟩
  |ret hc hb=>refine hc B F' H σ _ k' λF1 H1 x1=>?_;rw[ax rfl];exact⟨λ_ _=>False,λσ' H' z=>z.elim,hb B F1 H1 σ _ (k'.ext x1) q⟩
structure DefX(P:Program)(w:World)(K:ce)(mg:rG)(base:Heap)(k:Nat)(N:cH)(sc:Scope)(X:Cx):Prop where
 at':At X N sc
 prog:X.prog=P
 w':X.w=w
 k':X.K=K
 Up:X.mg=mg
 Uk:X.base=base
 room:SR k X.A
 S5:Vh X
 UN:X.stack=X.env::X.outer/\X.env.frame=some X.env.locals
def iN{K:ce}(sub:Sj F H)(r:Sh K F vs ds)(n:Nat):Ok K ⟨F,H⟩ F H (vs.map some++List.replicate n none) (ds.map Sl.val++List.replicate n Sl.un):=by
 have hl:=r.length;have own:∀(i:Nat)xs,(ds.map Sl.val++List.replicate n Sl.un)[i]?≠some (.own xs):=λi xs h=>by
  by_cases hi:i<ds.length
  ·rw[List.getElem?_append_left<|by simpa using hi,List.getElem?_map]at h;cases e:ds[i]? with
   |none=>rw[e]at h;cases h
   |some d=>rw[e]at h;cases h
  ·rw[List.getElem?_append_right<|by simpa using hi,List.getElem?_replicate]at h;split at h<;>cases h
 have Zf:∀(i:Nat)xs,(ds.map Sl.val++List.replicate n Sl.un)[i]?≠some (.TQ xs):=λi xs h=>by
  by_cases hi:i<ds.length
  ·rw[List.getElem?_append_left<|by simpa using hi,List.getElem?_map]at h;cases e:ds[i]? with
   |none=>rw[e]at h;cases h
   |some d=>rw[e]at h;cases h
  ·rw[List.getElem?_append_right<|by simpa using hi,List.getElem?_replicate]at h;split at h<;>cases h
 refine⟨.refl sub,by simp[hl],λi d h=>?_,λi xs h=>absurd h<|own i xs,λi j xs ys a h=>absurd h<|own i xs,⟨λi kvs h=>absurd h<|Zf i kvs,λi j xs ys a h=>absurd h<|Zf i xs⟩⟩;by_cases hi:i<ds.length
 ·rw[List.getElem?_append_left<|by simpa using hi,List.getElem?_map]at h;cases e:ds[i]? with
  |none=>rw[e]at h;cases h
  |some d'=>rw[e]at h;cases h;obtain⟨v,hv,rv⟩:=r.get e;exact⟨v,by rw[List.getElem?_append_left<|by rw[aj];lia,List.getElem?_map,hv];rfl,rv⟩
 ·rw[List.getElem?_append_right<|by simpa using hi,List.getElem?_replicate]at h;split at h<;>cases h
def O5{P:Program}(Ti:P.given.tree=none){w:World}{K:ce}{mg:rG}{base:Heap}{x qual:Str}{st:Stmt}{f:Addr}{fd:FuncData}{N ps:cH}{k:Nat}{C:aQ->D->Prop}(F:V2 K x qual st f fd)(S:aJ N ps (ai st))(len:∀ds d,C ds d->ds.length=ps.length)(body:∀X,DefX P w K mg base k N (ai st) X->∀ds d,C ds d->Sf X (ds.map Sl.val++List.replicate (N.length-ds.length) Sl.un) (aD st) (.rt d)):dQ P w K mg base ja (k+1) f fd ps (GN K C):=by
 refine F.ok S (λvs H Q E h=>?_) λS8 A outer s H vs Q E hr h=>?_;·obtain⟨F',ds,d,sub,r,hC,q⟩:=h;rw[r.length];exact len ds d hC
 ·obtain⟨F',ds,d,sub,r,hC,q⟩:=h;refine⟨_,dz,?_⟩;have hx:DefX P w K mg base k N (ai st) (mI ja P w K mg base N qual (ai st) f S8 A outer s H E).U7:=⟨⟨rfl,rfl,rfl,S.nd,rfl,hr.units,hr.UE,Ti,⟨_,_,rfl,S.gen,S.co,rfl,rfl⟩⟩,rfl,rfl,rfl,rfl,rfl,hr,⟨λ_=>rfl⟩,rfl,rfl⟩;have hb:=body _ hx ds d hC;have hk:Ok K ⟨F',H⟩ F' H (start N vs) (ds.map Sl.val++List.replicate (N.length-ds.length) Sl.un):=by unfold start;rw[r.length];exact iN sub r _
  exact hb ⟨F',H⟩ F' H _ _ hk λv F2 H2 x2 r2=>q v F2 H2 x2 r2
def DefX.callee{K:ce}{x:Str}{C:aQ->D->Prop}(h:DefX P w K mg base k N sc X)(F:dQ P w K mg base ja j f fd ps (GN K C))(hj:j<=k)(hm:mg x=some (.ref f))(hk:PySem.W.keepIn K (.ref f)=true)(hb:Binds K fd ps []):Callee X x C:=by obtain⟨h0,rfl,rfl,rfl,rfl,rfl,hr,_⟩:=h;exact⟨f,fd,ps,j,F,hr.mono hj,hm,hk,hb⟩
def uC(scope sc:Scope):Scope:={scope with names:=scope.names.map λ(n,k)=>if(k==.free&&sc.kind==.function&&sc.names.lookup n==some .cell)then(n,.cell)else(n,k)}
def Ag{sc:Scope}{env:Env}(h:env.scope=sc):relabel scope env=uC scope sc:=by subst h;rfl
def AT(env:Env):∀(names:List (Str×NameKind))(cs:List (Str×Addr)),(∀n,(n,NameKind.free)∈names->∃c,env.cells.lookup n=some c)->(∀n c,cs.lookup n=some c->env.cells.lookup n=some c)->∃cl:List (Str×Addr),(forIn (m:=Sem) names cs λ(x:Str×NameKind)r=>if x.2==.free then do let c <-cellOf env x.1;pure (ForInStep.yield<|(x.1,c)::r)else pure<|ForInStep.yield r)=pure cl/\(∀n c,cl.lookup n=some c->env.cells.lookup n=some c)/\(∀n,(n,NameKind.free)∈names->∃c,cl.lookup n=some c)/\(∀n c,cs.lookup n=some c->∃c',cl.lookup n=some c')
 |[],cs,_,h=>⟨cs,rfl,h,(λn hn=>nomatch hn),λn c e=>⟨c,e⟩⟩
 |(n,k)::r,cs,hf,h=>by
  rw[xz];by_cases hk:k=.free
  ·subst hk;obtain⟨c,hc⟩:=hf n bX;have UW:cellOf env n=pure c:=by unfold cellOf;rw[hc]
   have h':∀m c',((n,c)::cs).lookup m=some c'->env.cells.lookup m=some c':=λm c' e=>by
    rw[dq]at e;cases hm:m==n with
    |true=>rw[hm]at e;cases e;rw[eq_of_beq hm];exact hc
    |false=>rw[hm]at e;exact h m c' e
   obtain⟨cl,e1,e2,e3,e4⟩:=AT env r ((n,c)::cs) (λm hm=>hf m<|aM _ hm) h';refine⟨cl,?_,e2,λm hm=>?_,λm c' e=>?_⟩;·show((do let c <-cellOf env n;pure (ForInStep.yield<|(n,c)::cs))>>=_:Sem (List<|Str×Addr))=_;rw[UW];exact e1
   ·rcases List.mem_cons.mp hm with z |z;·cases z;exact e4 n c<|by rw[dq,IN]
    ·exact e3 m z
   ·by_cases hm:m=n;·subst hm;exact e4 m c<|by rw[dq,IN]
    ·exact e4 m c'<|by rw[dq,br.mpr hm];exact e
  ·have hb:(k==NameKind.free)=false:=br.mpr hk;obtain⟨cl,e1,e2,e3,e4⟩:=AT env r cs (λm hm=>hf m<|aM _ hm) h;refine⟨cl,?_,e2,λm hm=>?_,e4⟩;·show((if(k==NameKind.free)=true then _ else pure<|ForInStep.yield cs)>>=_:Sem (List<|Str×Addr))=_;rw[hb,av ay];exact e1
   ·rcases List.mem_cons.mp hm with z |z;·cases z;exact absurd rfl hk
    ·exact e3 m z
def DI{scope:Scope}{env:Env}(hf:∀n,(n,NameKind.free)∈scope.names->∃c,env.cells.lookup n=some c):∃cl:List (Str×Addr),closureFor scope env=pure cl/\(∀n c,cl.lookup n=some c->env.cells.lookup n=some c)/\(∀n,(n,NameKind.free)∈scope.names->∃c,cl.lookup n=some c):=by obtain⟨cl,e1,e2,e3,_⟩:=AT env scope.names [] hf λn c e=>nomatch e;refine⟨cl,?_,e2,e3⟩;show(forIn (m:=Sem) scope.names ([]:List (Str×Addr)) (λ(x:Str×NameKind)r=>if x.2==.free then do let c <-cellOf env x.1;pure (ForInStep.yield<|(x.1,c)::r)else pure<|ForInStep.yield r)>>=λs=>pure s)=pure cl;rw[e1];rfl
structure pG(N:cH)(sc:Scope)(N':cH)(scope:Scope):Prop where
 kind:scope.kind=.function
 cells:∀y∈scope.names,y.2=.cell->scope.names.lookup y.1=some .cell
 names:∀y∈scope.names,y.2=.local->scope.names.lookup y.1=some .local
 free:∀y∈scope.names,y.2=.free->sc.names.lookup y.1=some .cell
 ZU:sc.kind=.function
 nd:N'.Nodup
 old:∀(i:Nat)x,i<N.length->N'[i]?=some x->fO (uC scope sc) x=true->N[i]?=some x/\scope.names.lookup x=some .free
 len:N.length<=N'.length
def BS(scope:Scope)(x:Str):Bool:=match scope.names.lookup x with|some .cell=>true|_=>false
structure FC(names:List (Str×NameKind))(cells:List (Str×Addr))(n:Nat)(cl:List (Str×Addr))(h:Heap):Prop where
 look:∀m c,cl.lookup m=some c->(cells.lookup m=some c/\¬(m,NameKind.cell)∈names)\/(n<=c/\(m,NameKind.cell)∈names/\h.IsCell c none)
 has:∀m,((m,NameKind.cell)∈names\/∃c,cells.lookup m=some c)->∃c,cl.lookup m=some c
 inj:∀x y c,n<=c->cl.lookup x=some c->cl.lookup y=some c->x=y
def oM:∀(names:List (Str×NameKind))(cells:List (Str×Addr))(s:Shared)(Q:List (Str×Addr)->Shared->Prop),(∀m c,cells.lookup m=some c->c<s.heap.objs.size)->
  (∀cl h,(∀b o,s.heap.get? b=some o->h.get? b=some o)->FC names cells s.heap.objs.size cl h->Q cl {s with heap:=h})->
  wpAny M A (forIn names cells λx __s=>match x with
   |(name,kind)=>if(kind==NameKind.cell)=true then do
     let a <-alloc {cls:=Value.type "cell",data:=Data.cell none}
     pure (ForInStep.yield<|(name,a)::__s)
    else pure (ForInStep.yield __s)) Q E s
 |[],cells,s,Q,hb,q=>by
  refine aA<|q cells s.heap (λ_ _ e=>e) ⟨λm c e=>.inl ⟨e,λz=>nomatch z⟩,λm hm=>hm.elim (λz=>nomatch z) id,λx y c hc e _=>absurd (hb x c e)<|uW hc⟩
 |(name,kind)::bJ,cells,s,Q,hb,q=>by
  rw[xz]
  by_cases hk:kind=.cell
  ·subst hk
   refine ag ?_
   show wpAny M A (alloc _>>=_) _ _ s
   refine ag<|Qe<|aA ?_
   have hsz:(s.heap.push {cls:=Value.type "cell",data:=Data.cell none}).objs.size=s.heap.objs.size+1:=by rw[fv]
   refine oM bJ _ _ _ (λm c e=>?_) λcl h kp f=>q cl h (λb o e=>kp b o<|Heap.get?_push_of_some _ e) ⟨λm c e=>?_,λm hm=>f.has m ?_,λx y c hc ex ey=>?_⟩
   ·show c<(s.heap.push {cls:=Value.type "cell",data:=Data.cell none}).objs.size
    rw[hsz]
    rw[dq]at e
    split at e
    ·cases e;exact fB _
    ·exact i7<|hb m c e
   ·have f':=f.look m c e
    rcases f' with⟨e1,e2⟩ |⟨e1,e2,e3⟩
    ·rw[dq]at e1
     split at e1
     ·rename_i hm
      cases e1
      have ZD:m=name:=by simpa using hm
      subst ZD
      exact .inr ⟨ar _,by simp,⟨_,kp _ _<|Heap.get?_push_size _ rfl,rfl⟩⟩
     ·rename_i hm
      have ZD:m≠name:=by simpa using hm
      exact .inl ⟨e1,λz=>by
       rcases List.mem_cons.mp z with z |z
       ·exact ZD<|aV Prod.fst z
       ·exact e2 z⟩
    ·have e1':s.heap.objs.size+1<=c:=by rw[<-hsz];exact e1
     exact .inr ⟨by lia,by simp[e2],e3⟩
   ·rcases hm with hm |⟨c,hc⟩
    ·rcases List.mem_cons.mp hm with z |z
     ·right
      have:m=name:=aV Prod.fst z
      subst this
      exact⟨s.heap.objs.size,by rw[dq];simp⟩
     ·exact .inl z
    ·right
     rw[dq]
     split
     ·exact⟨_,rfl⟩
     ·exact⟨c,hc⟩
   ·by_cases V0:s.heap.objs.size+1<=c
    ·exact f.inj x y c (by show(s.heap.push _).objs.size<=c;rw[hsz];exact V0) ex ey
    ·have one:∀z,cl.lookup z=some c->z=name:=λz ez=>by
      rcases f.look z c ez with⟨e1,_⟩ |⟨e1,_⟩
      ·rw[dq]at e1
       split at e1
       ·rename_i hm;simpa using hm
       ·exact absurd (hb z c e1)<|uW hc
      ·exact absurd (show s.heap.objs.size+1<=c from ao (qg hsz.symm) e1) V0
     rw[one x ex,one y ey]
  ·have hk':(kind==NameKind.cell)=false:=by simpa using hk
   have mem:∀m,(m,NameKind.cell)∈(name,kind)::bJ↔(m,NameKind.cell)∈bJ:=λm=>by
    constructor
    ·intro z
     rcases List.mem_cons.mp z with z |z
     ·exact absurd (aV Prod.snd z).symm hk
     ·exact z
    ·intro z;simp[z]
   refine ag ?_
   show wpAny M A (if(kind==NameKind.cell)=true then _ else _) _ _ s
   rw[hk',av ay]
   refine aA (oM bJ cells s Q hb λcl h kp f=>q cl h kp ⟨λm c e=>?_,λm hm=>f.has m ?_,f.inj⟩)
   ·rw[mem];exact f.look m c e
   ·rw[mem]at hm;exact hm
def BY{s:Shared}{scope:Scope}{env:Env}{cl:List (Str×Addr)}{Q:Env->Shared->Prop}(hb:∀m c,cl.lookup m=some c->c<s.heap.objs.size)(h:∀Z6 h',(∀b o,s.heap.get? b=some o->h'.get? b=some o)->(∃m,h'.Ns s.heap.objs.size m)->FC scope.names cl s.heap.objs.size Z6 h'->Q {scope:=scope,locals:=s.heap.objs.size,globals:=env.globals,cells:=Z6,qual:=env.qual,func:=none,code:=env.code,frame:=env.frame,builtins:=env.builtins} {s with heap:=h'}):wpAny M A (newFunctionEnv scope env.globals cl [] env.qual none .none<|some env) Q E s:=by
 unfold newFunctionEnv;refine ag<|Qe ?_;have hsz:(s.heap.push {cls:=Value.type "dict",data:=Data.dict #[]}).objs.size=s.heap.objs.size+1:=by rw[fv]
 refine ag (oM scope.names cl _ _ (λm c e=>?_) λZ6 h' kp f=>?_);·show c<(s.heap.push {cls:=Value.type "dict",data:=Data.dict #[]}).objs.size;rw[hsz];exact i7<|hb m c e
 ·refine ag<|aA<|aA ?_;obtain⟨o,es,ep,g1,g2,g3,g4⟩:=Heap.Ns.new s.heap<|.type "dict";refine h Z6 h' (λb o e=>kp b o<|Heap.get?_push_of_some _ e) ⟨_,o,es,ep,kp _ _ g1,g2,g3,g4⟩ ⟨λm c e=>?_,f.has,λx y c hc ex ey=>?_⟩
  ·rcases f.look m c e with z |⟨z1,z2,z3⟩;·exact .inl z
   ·have z1':s.heap.objs.size+1<=c:=ao (qg hsz.symm) z1;exact .inr ⟨Nat.le_of_succ_le z1',z2,z3⟩
  ·by_cases V0:s.heap.objs.size+1<=c;·exact f.inj x y c (ao (qg hsz) V0) ex ey
   ·have e:c=s.heap.objs.size:=Nat.le_antisymm (Nat.le_of_lt_succ<|Nat.lt_of_not_le V0) hc;rcases f.look x c ex with⟨z,_⟩ |⟨z,_⟩;·exact absurd (hb x c z)<|uW hc
    ·have z':s.heap.objs.size+1<=c:=ao (qg hsz.symm) z;exact absurd z' V0
structure Vo(X X':Cx)(N':cH)(YE:Scope)(ow:Str->Bool):Prop where
 YT:We X' N' YE
 WH:X'.calm=X.calm
 prog:X'.prog=X.prog
 w':X'.w=X.w
 k':X'.K=X.K
 Up:X'.mg=X.mg
 Uk:X'.base=X.base
 a':X'.A=X.A
 fn':∀x,ow x=true->X'.fn x=true
structure VX(X X':Cx)(N':cH)(YE:Scope)(ow:Str->Bool):Prop where
 at':At X' N' YE
 prog:X'.prog=X.prog
 w':X'.w=X.w
 k':X'.K=X.K
 Up:X'.mg=X.mg
 Uk:X'.base=X.base
 a':X'.A=X.A
 fn':∀x,ow x=true->X'.fn x=true
section
variable {ow:Str->Bool}
def Vo.calm(h:Vo X X' N' YE ow)(hc:X.calm=true):VX X X' N' YE ow:=⟨h.YT.at<|h.WH.trans hc,h.prog,h.w',h.k',h.Up,h.Uk,h.a',h.fn'⟩
def VX.callee{C:aQ->D->Prop}(h:VX X X' N' YE ow)(c:Callee X x C):Callee X' x C:=by
 obtain⟨f,fd,ps,k,F,hr,hm,hk,hb⟩:=c;refine⟨f,fd,ps,k,?_,?_,?_,?_,?_⟩;·rw[h.prog,h.w',h.k',h.Up,h.Uk];exact F
 ·rw[h.a'];exact hr
 ·rw[h.Up];exact hm
 ·rw[h.k'];exact hk
 ·rw[h.k'];exact hb
end
inductive Tf(X:Cx)(tg elt:Expr)(ifs:rH):aQ->cA->aQ->Prop where
 |nil {ρ:cA}:Tf X tg elt ifs [] ρ []
 |take {d r:D} {ds rs:aQ} {ρ ρ1:cA}:Ve X ρ tg d ρ1->(ifs=[]\/∃c,ifs=[c]/\Sg X ρ1 c true)->Se X ρ1 elt r->Tf X tg elt ifs ds ρ1 rs->Tf X tg elt ifs (d::ds) ρ (r::rs)
 |skip {d:D} {ds rs:aQ} {ρ ρ1:cA} {c:Expr}:Ve X ρ tg d ρ1->ifs=[c]->Sg X ρ1 c false->Tf X tg elt ifs ds ρ1 rs->Tf X tg elt ifs (d::ds) ρ rs
section
variable {R:Result->Shared->Prop}
def AR{env:Env}(I:Nat->Shared->Prop)(turn:∀n s,I n s->wpAny (model prog w) A (pyNext it) (λr s₁=>match r with
   |none=>R (.ok .next) s₁
   |some v=>wpAny (model prog w) A (letOwnedTupleGo target it v) (λ_ s₀=>wpAny (model prog w) A (assign target env v) (λ_ s₂=>
     wpAny (model prog w) A (forIn ifs true λc r=>if r=true then do let ok <-isTrue c env (eval c env);pure (ForInStep.yield ok)else pure<|ForInStep.yield r) (λok s₃=>
      if ok=true then wpAny (model prog w) A (eval elt env) (λx s₄=>
       wpAny (model prog w) A (call (.builtin "list.append") [acc,x]) (λ_ s₅=>∃m,m<n/\I m s₅) (λ_ _=>False) s₄) (λ_ _=>False) s₃
      else∃m,m<n/\I m s₃) (λ_ _=>False) s₂) (λ_ _=>False) s₀) (λ_ _=>False) s₁) (λ_ _=>False) s)(n:Nat)(h:I n s):
  codeAny (model prog w) A (.compLoop (.ListComp elt [⟨target,iter,ifs,0⟩] scope pos) 0 it acc env) R s:=by
 refine codeAny_loop rfl I (λn s hI=>?_) n h
 show wpAny _ A ((compTurn (.ListComp elt [⟨target,iter,ifs,0⟩] scope pos) 0 it acc env).onRaise λx=>do noteFrame x env;theTreesLotGoes x) _ _ s
 refine wpAny_noted ?_
 rw[compTurn_list]
 refine ag<|qE<|ag (aL (turn n s hI) (λr s₁ h₁=>?_) λ_ _ h'=>h'.elim)
 cases r with
 |none=>exact aA h₁
 |some v=>
  refine ag (aL h₁ (λ_ s₀ h₀=>ag (aL h₀ (λ_ s₂ h₂=>ag (aL h₂ (λok s₃ h₃=>?_) λ_ _ h'=>h'.elim)) λ_ _ h'=>h'.elim)) λ_ _ h'=>h'.elim)
  cases ok with
  |false=>exact aA ⟨rfl,h₃⟩
  |true=>
   exact ag<|ag (aL h₃ (λx s₄ h₄=>ag (aL h₄ (λ_ s₅ h₅=>aA<|aA ⟨rfl,h₅⟩) λ_ _ h'=>h'.elim)) λ_ _ h'=>h'.elim)
end
def Ok.XM{K:ce}{p:Addr}(k:Ok K B F H σ ρ)(hf:F p=none)(hb:B.H p=none)(hn:Tw σ ρ p)(hl:∃vs,H p=some (.lst vs)):Ok K B F (c6 H p o) σ ρ:=by
 refine⟨⟨λb u q=>?_,λb u q=>?_,k.sf,k.nw⟩,k.len,k.vals,λi xs e=>?_,k.dist,k.So.to (.refl _) (λb φ e1 e2 _=>⟨by rw[aC λz=>by subst z;obtain⟨vs,hl⟩:=hl;rw[hl]at e1;cases e1];exact e1,e2⟩) λ_ _ e=>⟨e,rfl⟩⟩
 ·have ne:b≠p:=λz=>by subst z;rw[hf]at q;cases q
  rw[aC ne];exact k.sub b u q
 ·have ne:b≠p:=λz=>by subst z;rw[hb]at q;cases q
  rw[aC ne];exact k.sh b u q
 ·obtain⟨a,vs,h1,h2,h3,h4,h5⟩:=k.Tj i xs e;have ne:a≠p:=λz=>by subst z;exact hn i xs e h1
  exact⟨a,vs,h1,by rw[aC ne];exact h2,h3,h4,h5⟩
def Ok.more{K:ce}(k:Ok K B F H σ ρ)(n:Nat):Ok K B F H (σ++List.replicate n none) (ρ++List.replicate n .un):=by
 have get:∀(i:Nat)s,(ρ++List.replicate n Sl.un)[i]?=some s->s≠.un->ρ[i]?=some s/\(σ++List.replicate n none)[i]?=σ[i]?:=λi s h hn=>by
  by_cases hi:i<ρ.length;·rw[List.getElem?_append_left hi]at h;exact⟨h,List.getElem?_append_left<|by rw[k.len];exact hi⟩
  ·rw[List.getElem?_append_right<|by lia,List.getElem?_replicate]at h;split at h;·cases h;exact absurd rfl hn
   ·cases h
 refine⟨k.toExt,by simp[k.len],λi d h=>?_,λi xs h=>?_,λi j xs ys a h1 h2 h3 h4=>?_,k.So.to (.refl _) (λ_ _ e1 e2 _=>⟨e1,e2⟩) λi kvs h=>get i _ h λz=>nomatch z⟩;·obtain⟨e1,e2⟩:=get i _ h λz=>nomatch z;rw[e2];exact k.vals i d e1
 ·obtain⟨e1,e2⟩:=get i _ h λz=>nomatch z;rw[e2];exact k.Tj i xs e1
 ·obtain⟨e1,e2⟩:=get i _ h1 λz=>nomatch z;obtain⟨g1,g2⟩:=get j _ h2 λz=>nomatch z;rw[e2]at h3;rw[g2]at h4;exact k.dist i j xs ys a e1 g1 h3 h4
def kJ{x:Str}{names:List (Str×NameKind)}{k:NameKind}(h:names.lookup x=some k):(x,k)∈names:=gz h
def vT{scope sc:Scope}{x:Str}(hf:sc.kind=.function)(fr:∀y∈scope.names,y.2=.free->sc.names.lookup y.1=some .cell){k:NameKind}(h:(uC scope sc).names.lookup x=some k):∃k',scope.names.lookup x=some k'/\(k'=.free->k=.cell)/\(k'≠.free->k=k'):=by
 have go:∀names:List (Str×NameKind),(∀y∈names,y.2=.free->sc.names.lookup y.1=some .cell)->(names.map λ(n,k)=>if(k==NameKind.free&&sc.kind==.function&&sc.names.lookup n==some .cell)then(n,NameKind.cell)else(n,k)).lookup x=some k->∃k',names.lookup x=some k'/\(k'=.free->k=.cell)/\(k'≠.free->k=k'):=by
  intro names;induction names with
  |nil=>intro _ h;cases h
  |cons y r ih=>
   intro fr h;obtain⟨n,kk⟩:=y;have hr:=ih λy hy=>fr y<|aM _ hy;by_cases hkk:kk=.free
   ·subst hkk;have hc:=fr (n,.free) bX rfl;have e:(if(NameKind.free==NameKind.free&&sc.kind==.function&&sc.names.lookup n==some .cell)=true then(n,NameKind.cell)else(n,NameKind.free))=(n,NameKind.cell):=by have V0:sc.names.lookup n=some .cell:=hc;rw[V0,hf];rfl
    rw[aP]at h;simp only[e]at h;rw[dq]at h ⊢;cases hx:x==n with
    |true=>rw[hx]at h;cases h;exact⟨.free,rfl,λ_=>rfl,λz=>absurd rfl z⟩
    |false=>rw[hx]at h;exact hr h
   ·have e:(if(kk==NameKind.free&&sc.kind==.function&&sc.names.lookup n==some .cell)=true then(n,NameKind.cell)else(n,kk))=(n,kk):=by have hb:(kk==NameKind.free)=false:=br.mpr hkk;rw[hb];rfl
    rw[aP]at h;simp only[e]at h;rw[dq]at h ⊢;cases hx:x==n with
    |true=>rw[hx]at h;cases h;exact⟨_,rfl,λz=>absurd z hkk,λ_=>rfl⟩
    |false=>rw[hx]at h;exact hr h
 exact go scope.names fr h
def P5(X:Cx)(N':cH)(scope:Scope)(cl:List (Str×Addr))(C:Addr)(s3:Shared)(H3:Hp)(fp:List Addr):Cx:={X with N:=N',s₀:=s3,H₀:=H3,env:=compEnvC scope cl C X.env,outer:=X.stack,stack:=X.stack,ex:=fp,fn:=BS scope,pn:=[],xe:=λ_ _=>False}
section
variable {tn:Nat->Heap->Prop}{J:It}{ds rs:aQ}
def NC{cl WG:List (Str×Addr)}(t:We X N sc)(S:pG N sc N' scope)(I3:Inv X pins σ H3 s3)(WD:∀n c,WG.lookup n=some c->X.env.cells.lookup n=some c)(VZ:∀n,(n,NameKind.free)∈scope.names->∃c,WG.lookup n=some c)(CN:FC scope.names WG s3.heap.objs.size cl h₁)(fo:∀b∈fp,rj X pins H3 b)(fl:∀b∈fp,b<s3.heap.objs.size):(P5 X N' scope cl s3.heap.objs.size s3 H3 fp).Ok:=by
 refine⟨I3.ok.mod,?_,I3.ok.glob,I3.ok.blt,ar _,λx y c h1 h2=>?_,λx hx=>?_,(λx c hf h=>?_),I3.ok.hd,I3.ok.frames,.inl rfl,λb hb=>⟨?_,λx c h=>?_⟩,I3.bs,ao I3.ok.Xg I3.sz,λb o h hb=>?_,λb hb h=>?_,I3.stack,I3.Vf⟩;·exact S.kind
 ·by_cases hc:s3.heap.objs.size<=c;·exact CN.inj x y c hc h1 h2
  ·have old:∀z,cl.lookup z=some c->X.env.cells.lookup z=some c:=λz ez=>by
    rcases CN.look z c ez with⟨e,_⟩ |⟨e,_⟩;·exact WD z c e
    ·exact absurd e hc
   exact I3.ok.inj x y c (old x h1)<|old y h2
 ·have Wi:(relabel scope X.env).names.lookup x=some .cell\/(relabel scope X.env).names.lookup x=some .free:=hx;rw[Ag t.eS]at Wi;have hk:∃k,(k=NameKind.cell\/k=.free)/\(uC scope sc).names.lookup x=some k:=by
   rcases Wi with h |h;·exact⟨_,.inl rfl,h⟩
   ·exact⟨_,.inr rfl,h⟩
  obtain⟨k,hk,h⟩:=hk;obtain⟨k',h1,h2,h3⟩:=vT S.ZU S.free h;by_cases hf:k'=.free;·subst hf;exact CN.has x<|.inr<|VZ x<|kJ h1
  ·have e:=h3 hf;rcases hk with hk |hk;·have e':k'=.cell:=e.symm.trans hk;subst e';exact CN.has x<|.inl<|kJ h1
   ·exact absurd (e.symm.trans hk) hf
 ·have hm:(x,NameKind.cell)∈scope.names:=by
   have ZL:BS scope x=true:=hf;unfold BS at ZL;cases e:scope.names.lookup x with
   |none=>rw[e]at ZL;cases ZL
   |some kk=>rw[e]at ZL;cases kk<;>first |exact kJ e |cases ZL
  rcases CN.look x c h with⟨_,e⟩ |⟨e,_⟩;·exact absurd hm e
  ·exact e
 ·exact bw<|fl b hb
 ·rcases CN.look x c h with⟨e,_⟩ |⟨e,_⟩;·exact(fo b hb).2.2.2.2.1 x c<|WD x c e
  ·exactλz=>absurd (fl b hb)<|by rw[<-z];exact uW e
 ·rcases(fo b hb).2.2.2.1 with z |z;·exact I3.ok.Ue b o h z
  ·have h1:=aH h;have h2:=I3.ok.Xg;exact absurd (aW h1<|ao h2 z)<|eT _
 ·have h':b∈qS X.stack:=h;rcases List.mem_cons.mp (I3.Vj b h')with z |z;·exact(fo b hb).2.1 z
  ·exact(fo b hb).2.2.1 z
def Kz{tk:Nat}{cl WG:List (Str×Addr)}(t:We X N sc)(S:pG N sc N' scope)(I3:Inv X pins σ H3 s3)(WD:∀n c,WG.lookup n=some c->X.env.cells.lookup n=some c)(VZ:∀n,(n,NameKind.free)∈scope.names->∃c,WG.lookup n=some c)(CN:FC scope.names WG s3.heap.objs.size cl h₁)(fo:∀b∈fp,rj X pins H3 b)(fl:∀b∈fp,b<s3.heap.objs.size)(hns:∃m,h₁.Ns s3.heap.objs.size m)(kp:∀b o,s3.heap.get? b=some o->h₁.get? b=some o):Inv (P5 X N' scope cl s3.heap.objs.size s3 H3 fp) [] (σ++List.replicate (N'.length-N.length) none) H3 {s3 with heap:=h₁,toks:=tk}:=by
 obtain⟨m,hm⟩:=hns;have hlen:σ.length=N.length:=by rw[I3.len,t.eN]
 refine⟨NC t S I3 WD VZ CN fo fl,rfl,I3.bare,Un.kept kp,⟨m,hm,λi x v h1 h2 h3=>?_⟩,λx c h=>?_,I3.SA.fresh<|ar _,λx c h=>(CN.look x c h).elim (λz=>I3.TV x c<|WD x c z.1) λz=>I3.SA.fresh z.1,(λp hp=>nomatch hp),I3.SA.kept kp,?_⟩
 ·have hi:i<σ.length:=by
   by_cases hi:i<σ.length;·exact hi
   ·rw[List.getElem?_append_right<|by lia,List.getElem?_replicate]at h2;split at h2<;>cases h2
  rw[List.getElem?_append_left hi]at h2;have h3':Pm (uC scope sc) x:=by rw[<-Ag t.eS];exact h3
  have hv:fO (uC scope sc) x=true:=by unfold fO;rcases h3' with z |z |z<;>rw[z]
  obtain⟨e1,e2⟩:=S.old i x (by lia) h1 hv;have UW:sc.names.lookup x=some .cell:=S.free _ (kJ e2) rfl;obtain⟨m0,hn0,hl0⟩:=I3.loc;obtain⟨u,ru,lk⟩:=hl0 i x v (by rw[t.eN];exact e1) h2 (by rw[t.eS];exact .inr<|.inl UW);refine⟨u,ru,?_⟩;have hkx:X.env.kindOf x=some .cell:=by show X.env.scope.names.lookup x=_;rw[t.eS];exact UW
  rcases lk with⟨k,_⟩ |⟨_,c,hc,hcc⟩;·rw[hkx]at k;cases k
  ·obtain⟨c',V0⟩:=CN.has x<|.inr<|VZ x<|kJ e2;have ho:WG.lookup x=some c':=by
    rcases CN.look x c' V0 with⟨z,_⟩ |⟨_,z,_⟩;·exact z
    ·have z':=S.cells _ z rfl;rw[e2]at z';cases z'
   have e:c'=c:=bz<|(WD x c' ho).symm.trans hc;subst e;refine .inr ⟨?_,c',V0,?_⟩
   ·show(relabel scope X.env).names.lookup x=_\/(relabel scope X.env).names.lookup x=_;rw[Ag t.eS];rcases h3' with z |z |z
    ·obtain⟨k',g1,g2,g3⟩:=vT S.ZU S.free z;by_cases hk':k'=.free;·have:=g2 hk';cases this
     ·have e:=g3 hk';subst e;rw[e2]at g1;cases g1
    ·exact .inl z
    ·exact .inr z
   ·obtain⟨oc,ho,hd⟩:=hcc;exact⟨oc,kp _ _ ho,hd⟩
 ·rcases CN.look x c h with⟨z,_⟩ |⟨_,_,z⟩;·obtain⟨v,oc,ho,hd⟩:=I3.cell x c<|WD x c z;exact⟨v,oc,kp _ _ ho,hd⟩
  ·exact⟨_,z⟩
 ·show(σ++List.replicate (N'.length-N.length) none).length=N'.length;have:=S.len;rw[aq,iZ,hlen];lia
end
def PD(X:Cx)(pins:fR)(σ:St)(F2 H2:Hp)(rs:aQ)(D' C:Addr)(s':Shared):Prop:=∃(F' H':Hp)(vs:dw)(m:rG),Inv X pins σ H' s'/\s'.heap.Ns C m/\H' C=none/\C≠X.env.locals/\X.s₀.heap.objs.size<=C/\(∀x c,X.env.cells.lookup x=some c->c≠C)/\(∀p∈X.pn++pins,p.1≠C)/\Ext ⟨F2,H2⟩ F' H'/\H2 D'=none/\H' D'=some (.lst vs)/\F' D'=none/\Sh X.K F' vs rs/\D'≠C
section
variable {tn:Nat->Heap->Prop}{J:It}{ds rs:aQ}
def FQ{s3:Shared}{DD C:Addr}{h₁:Heap}{tk:Nat}{cl WG:List (Str×Addr)}(t:We X N sc)(md:X.calm=true\/(J.VA/\Pw X.A H2))(S:pG N sc N' scope)(hC:s3.heap.objs.size=C)(hDC:DD≠C)(I3:Inv X pins σ (c6 H2 DD<|.lst []) s3)(W3:H2 DD=none)(YL:∀b∈fp,rj X pins (c6 H2 DD<|.lst []) b)(fl3:∀b∈fp,b<s3.heap.objs.size)(T:Bq X.prog X.w X.K tg J fp it tn)(tn3:tn 0 s3.heap)(Ys:∃m,h₁.Ns s3.heap.objs.size m)(kp4:∀b o,s3.heap.get? b=some o->h₁.get? b=some o)(k2:Ok X.K B F2 H2 σ ρ)(JO:uh X.K J F2 ds)(hz:ds.length<sizeLine)(WD:∀n c,WG.lookup n=some c->X.env.cells.lookup n=some c)(VZ:∀n,(n,NameKind.free)∈scope.names->∃c,WG.lookup n=some c)(CN:FC scope.names WG s3.heap.objs.size cl h₁)(run:∀X',Vo X X' N' (uC scope sc) (BS scope)->Tf X' tg elt ifs ds (ρ++List.replicate (N'.length-N.length) .un) rs){RR:Value->Addr->Result->Shared->Prop}(hRR:∀D' C s',PD X pins σ F2 H2 rs D' C s'->RR (.ref D') C (.ok .next) s'):codeAny (model X.prog X.w) X.A (.compStart (.ListComp elt [⟨tg,iter,ifs,0⟩] scope pos) 0 (.ref it) (.ref DD)<|compEnvC scope cl C X.env) (RR (.ref DD) C) {s3 with heap:=h₁,toks:=tk}:=by
 have I4:Inv (P5 X N' scope cl C s3 (c6 H2 DD<|.lst []) fp) [] (σ++List.replicate (N'.length-N.length) none) (c6 H2 DD<|.lst []) {s3 with heap:=h₁,toks:=tk}:=by have q:=Kz (N':=N') (tk:=tk) (fp:=fp) t S I3 WD VZ CN YL fl3 Ys kp4;rw[hC]at q;exact q
 generalize X2:P5 X N' scope cl C s3 (c6 H2 DD<|.lst []) fp=X' at I4;have cx:Vo X X' N' (uC scope sc) (BS scope):=by subst X2;exact⟨⟨rfl,Ag t.eS,S.nd,rfl,t.un,t.dp,t.tree,t.fr⟩,rfl,rfl,rfl,rfl,rfl,rfl,rfl,λx hx=>hx⟩
 have md':X'.calm=true\/(J.VA/\NP X'):=by
  rcases md with z |⟨z,ea,oe,u,vs,k1,k2,k3,k4⟩;·exact .inl<|cx.WH.trans z
  ·refine .inr ⟨z,ea,oe,u,vs,by rw[cx.a'];exact k1,?_,k3,k4⟩;have e:X'.H₀=c6 H2 DD (.lst []):=by subst X2;rfl
   rw[e,aC<|dZ k2 W3];exact k2
 have run':=run X' cx;have eP:X'.prog=X.prog:=cx.prog;have eW:X'.w=X.w:=cx.w';have eA:X'.A=X.A:=cx.a';have eK:X'.K=X.K:=cx.k';have W9:X'.env=compEnvC scope cl C X.env:=by subst X2;rfl
 have eX:X'.xe=λ_ _=>False:=cx.YT.U7;have Z4:X'.ex=fp:=by subst X2;rfl
 have ePn:X'.pn=[]:=by subst X2;rfl
 have k4:Ok X.K B F2 (c6 H2 DD<|.lst []) (σ++List.replicate (N'.length-N.length) none) (ρ++List.replicate (N'.length-N.length) .un):=(k2.ZS W3).more _;have no4:Tw (σ++List.replicate (N'.length-N.length) none) (ρ++List.replicate (N'.length-N.length) .un) DD:=(k2.more _).noOwn W3;have bD:B.H DD=none:=k2.sh.free W3;have fD:F2 DD=none:=k2.sub.free W3;have fp4:∀{H':Hp},(∀b∈fp,H' b=none)->∀b∈fp,rj X' [] H' b:=λ{H'}hn b hb=>by
  refine⟨hn b hb,?_,?_,.inl<|by rw[Z4];exact hb,λx c h=>?_,λp hp=>?_⟩;·exact(I4.ok.Z2 b<|by rw[Z4];exact hb).1
  ·exact I4.ok.Ww b<|by rw[Z4];exact hb
  ·exact(I4.ok.Z2 b<|by rw[Z4];exact hb).2 x c h
  ·rw[ePn]at hp;exact nomatch hp
 have fin:∀(σ':St)(F' H':Hp)(vs:dw)(s':Shared),Inv X' [] σ' H' s'->Ext ⟨F2,H2⟩ F' H'->H' DD=some (.lst vs)->F' DD=none->Sh X.K F' vs rs->RR (.ref DD) C (.ok .next) s':=λσ' F' H' vs s' I' x' h1 h2 h3=>by
  refine hRR DD C s' ?_;have base:=I'.base;have hos:=I'.os;have ZK:=I'.SA;have UU:=I'.free;obtain⟨m,hm,_⟩:=I'.loc;rw[W9]at UU hm;rw[Z4]at base;have e1:X'.fs=qS X.stack:=by subst X2;rfl
  have e2:X'.H₀=c6 H2 DD (.lst []):=by subst X2;rfl
  have e3:X'.s₀=s3:=by subst X2;rfl
  rw[e1,e2,e3]at base;rw[e3]at hos;rw[eP,eW]at ZK;have IX:Inv X pins σ H' s':=I3.X8 (ch:=fp) hos base ZK I'.bare λb hb=>⟨(YL b hb).2.2.2.1,(YL b hb).2.1,(YL b hb).2.2.2.2.1,(YL b hb).2.2.2.2.2⟩;refine⟨F',H',vs,m,IX,hm,UU,?_,?_,λx c h z=>?_,λp hp z=>?_,x',W3,h1,h2,h3,hDC⟩;·have:=I3.lt;rw[hC]at this;exactλz=>absurd (z▸this)<|eT _
  ·have:=I3.sz;rw[hC]at this;exact this
  ·obtain⟨v,q⟩:=I3.cell x c h;have:=q.lt;rw[hC,z]at this;exact absurd this<|eT _
  ·have:=aH (I3.pin p hp).1;rw[hC,z]at this;exact absurd this<|eT _
 have tn4:tn 0 h₁:=T.keep 0 _ _ tn3 λb hb o e=>kp4 b o e;have loop:∀s4:Shared,s4={s3 with heap:=h₁,toks:=tk}->codeAny (model X.prog X.w) X.A (.compLoop (.ListComp elt [⟨tg,iter,ifs,0⟩] scope pos) 0 (.ref it) (.ref DD)<|compEnvC scope cl C X.env) (RR (.ref DD) C) s4:=by
  rintro s4 rfl;obtain⟨P,hP⟩:∃P:Nat->Shared->Prop,P=λn s'=>∃(i:Nat)(σ':St)(F' H':Hp)(ρ':cA)(vs:dw)(r0 r1:aQ),Inv X' [] σ' H' s'/\tn i s'.heap/\(∀b∈fp,H' b=none)/\Ok X.K B F' H' σ' ρ'/\Ext ⟨F2,H2⟩ F' H'/\H' DD=some (.lst vs)/\F' DD=none/\Tw σ' ρ' DD/\Sh X.K F' vs r0/\Tf X' tg elt ifs (ds.drop i) ρ' r1/\r0++r1=rs/\r0.length<=i/\i<=ds.length/\n=ds.length+1-i:=⟨_,rfl⟩;refine AR P ?_ (ds.length+1)<|hP▸⟨0,_,F2,_,_,[],[],rs,I4,tn4,λb hb=>(YL b hb).1,k4,⟨k2.sub.trans<|aU W3,aU W3,.refl _,λa h=>.inl h⟩,aI,fD,no4,.nil,by simpa using run',rfl,bR _,bR _,by simp⟩;intro n s' hs;rw[hP]at hs;obtain⟨i,σ',F',H',ρ',vs,r0,r1,I',tni,fpi,k',x',hH,hF,no',rv,cr,er,hr0,hi,rfl⟩:=hs;have JO':=JO i F' H' x'.sf k'.sub;have TI:=T.item X' eP eW eK md' i [] s' σ' H' (λ_ _=>False) I' (fp4 fpi) tni;have TD:=T.done X' eP eW eK md' i [] s' σ' H' (λ_ _=>False) I' (fp4 fpi) tni;rw[eA]at TI TD;generalize e1:ds.drop i=bJ at cr
  have stepI:∀{TT:Shared->Prop}{d:D}{ρ1:cA}(hd:ds[i]?=some d)(g:Ve X' ρ' tg d ρ1)(K:∀(Tq:fR)(s5:Shared)(σ5:St)(F5 H5:Hp),Inv X' Tq σ5 H5 s5->Ok X.K B F5 H5 σ5 ρ1->Ext ⟨F2,H2⟩ F5 H5->H5 DD=some (.lst vs)->F5 DD=none->Tw σ5 ρ1 DD->Sh X.K F5 vs r0->(∀(s6:Shared)(σ6:St)(H6:Hp),Inv X' Tq σ6 H6 s6->Inv X' [] σ6 H6 s6/\tn (i+1) s6.heap/\∀b∈fp,H6 b=none)->TT s5),dR X (pyNext<|.ref it) (λr s₁=>match r with
   |none=>RR (.ref DD) C (.ok .next) s₁
   |some v=>dR X (letOwnedTupleGo tg (.ref it) v) (λ_ s₀=>dR X (assign tg (compEnvC scope cl C X.env) v) (λ_=>TT) (λ_ _=>False) s₀) (λ_ _=>False) s₁) (λ_ _=>False) s':=by
   intro TT d ρ1 hd g K
   obtain⟨go,yl⟩:=JO'.1 _ hd
   refine dW (TI go) λr s4 ⟨u,hr,h4⟩=>?_
   subst hr
   refine dW h4 λ_ s5 ⟨x,H5,I5,r5,y5,WN,ZX⟩=>?_
   obtain⟨F5,x5,rx⟩:=yl x H5 y5
   have I5':=I5.pinned (fp4 ZX)<|T.obj _ _ WN
   have gg:=g B F5 H5 σ' x (λσ6 H6=>H6=H5/\Ok X.K B F5 H5 σ6 ρ1/\Tw σ6 ρ1 DD) (by rw[eK];exact k'.ext x5) (by rw[eK];exact rx) (λσ6 k6 n6=>⟨rfl,by rw[eK]at k6;exact k6,n6 DD no'⟩) _ s5 u I5' r5
   unfold dR at gg;rw[eP,eW,eA,W9,eX]at gg
   refine dW gg λ_ s6 ⟨σ6,H6,I6,e6,k6,n6⟩=>?_
   subst e6
   refine K _ s6 σ6 F5 H6 I6 k6 (x'.t x5) (x5.sh _ _ hH) ?_ n6 (rv.mono x5.sf) λs7 σ7 H7 I7=>⟨I7.T5,T.keep _ _ _ WN λb hb o e=>(I7.pin (b,o)<|aB _<|aB _<|ji hb e).1,λb hb=>?_⟩
   ·exact x5.kf hF hH
   ·obtain⟨o,e,d⟩:=T.obj _ _ WN b hb;exact(I7.pin (b,o)<|aB _<|aB _<|ji hb e).2.1
  have Z3:∀{d r:D}{WQ rs':aQ}{ρ1:cA}(S1:i<ds.length)(Yu:ds.drop (i+1)=WQ)(ev:Se X' ρ1 elt r)(YA:Tf X' tg elt ifs WQ ρ1 rs')(er':r0++(r::rs')=rs)(Tq:fR)(s5:Shared)(σ5:St)(F5 H5:Hp),Inv X' Tq σ5 H5 s5->Ok X.K B F5 H5 σ5 ρ1->Ext ⟨F2,H2⟩ F5 H5->H5 DD=some (.lst vs)->F5 DD=none->Tw σ5 ρ1 DD->Sh X.K F5 vs r0->(∀(s6:Shared)(σ6:St)(H6:Hp),Inv X' Tq σ6 H6 s6->Inv X' [] σ6 H6 s6/\tn (i+1) s6.heap/\∀b∈fp,H6 b=none)->dR X (eval elt<|compEnvC scope cl C X.env) (λx s₄=>dR X (call (.builtin "list.append") [.ref DD,x]) (λ_ s₅=>∃m,m<ds.length+1-i/\P m s₅) (λ_ _=>False) s₄) (λ_ _=>False) s5:=by
   subst hP;intro d r WQ rs' ρ1 S1 Yu ev YA er' Tq s5 σ5 F5 H5 I5 k5 x5 h5 f5 n5 Ye back;have ee:=ev B F5 H5 σ5 (λv H6=>∃F6,Ext ⟨F5,H5⟩ F6 H6/\Rep X.K F6 v r) (by rw[eK];exact k5) (λv F6 H6 x6 r6=>⟨F6,x6,by rw[eK]at r6;exact r6⟩) Tq s5 I5;unfold dR at ee;rw[eP,eW,eA,W9,eX]at ee;refine dW ee λu s6 ⟨v,H6,I6,ru,F6,x6,r6⟩=>?_;have h6:=x6.sh _ _ h5;have f6:F6 DD=none:=x6.kf f5 h5;have hlen:vs.length<sizeLine:=by have:=Ye.length;lia
   have app:=pO (X:=X') Tq s6 σ5 H6 (.ref DD) [v] (.ref DD) [u] (λz H7=>H7=c6 H6 DD (.lst<|vs++[v])) I6 rfl (.cons ru .nil) ⟨DD,vs,v,rfl,rfl,h6,hlen,rfl⟩;unfold dR at app;rw[eP,eW,eA,eX]at app;refine dW app λ_ s7 ⟨z,H7,I7,_,e7⟩=>?_;subst e7;obtain⟨I8,t8,f8⟩:=back s7 σ5 _ I7;have x7:=x5.t x6;refine⟨ds.length+1-(i+1),by lia,i+1,σ5,F6,_,ρ1,vs++[v],r0++[r],rs',I8,t8,f8,(k5.ext x6).XM f6 bD n5 ⟨_,h6⟩,⟨λb w q=>?_,λb w q=>?_,x7.sf,x7.nw⟩,aI,f6,n5,(Ye.mono x6.sf).append<|.cons r6 .nil,by rw[Yu];exact YA,by rw[bf];exact er',by rw[aq,fL];lia,S1,rfl⟩
   ·have ne:b≠DD:=λz=>by subst z;rw[f6]at q;cases q
    rw[aC ne];exact x6.sub b w q
   ·have ne:b≠DD:=λz=>by subst z;have q':H2 b=some w:=q;rw[W3]at q';cases q'
    rw[aC ne];exact x7.sh b w q
  cases cr with
  |nil=>
   have hl:ds.length<=i:=by have:=aV List.length e1;rw[bP,iy]at this;lia
   refine dW (TD<|JO'.2 hl) λr s4 ⟨hr,I4'⟩=>?_;subst hr;rw[bC]at er;subst er;exact fin σ' F' H' vs s4 I4' x' hH hF rv
  |@take d r X5 rs0 ρ0 ρ1 g ci ev YA=>
   obtain⟨hd,Yu,S1⟩:=io e1;refine stepI hd g λTq s5 σ5 F5 H5 I5 k5 x5 h5 f5 n5 Ye back=>?_;rcases ci with rfl |⟨c,rfl,et⟩;·refine wpAny_tests_nil ?_;rw[ax rfl];exact Z3 (d:=d) S1 Yu ev YA er Tq s5 σ5 F5 H5 I5 k5 x5 h5 f5 n5 Ye back
   ·have tt:=et B F5 H5 σ5 (λb H6=>b=true/\∃F6,Ext ⟨F5,H5⟩ F6 H6) (by rw[eK];exact k5) (λF6 H6 x6=>⟨rfl,F6,x6⟩) Tq s5 I5;unfold dR at tt;rw[eP,eW,eA,W9,eX]at tt;refine wpAny_tests_one (dW tt λb s6 ⟨H6,I6,eb,F6,x6⟩=>?_);subst eb;rw[ax rfl];have f6:F6 DD=none:=x6.kf f5 h5;exact Z3 (d:=d) S1 Yu ev YA er Tq s6 σ5 F6 H6 I6 (k5.ext x6) (x5.t x6) (x6.sh _ _ h5) f6 n5 (Ye.mono x6.sf) back
  |@skip d X5 rs0 ρ0 ρ1 c g hc et YA=>obtain⟨hd,Yu,S1⟩:=io e1;subst hc;refine stepI hd g λTq s5 σ5 F5 H5 I5 k5 x5 h5 f5 n5 Ye back=>?_;have tt:=et B F5 H5 σ5 (λb H6=>b=false/\∃F6,Ext ⟨F5,H5⟩ F6 H6) (by rw[eK];exact k5) (λF6 H6 x6=>⟨rfl,F6,x6⟩) Tq s5 I5;unfold dR at tt;rw[eP,eW,eA,W9,eX]at tt;refine wpAny_tests_one (dW tt λb s6 ⟨H6,I6,eb,F6,x6⟩=>?_);subst eb;rw[av ay];have f6:F6 DD=none:=x6.kf f5 h5;obtain⟨I8,t8,f8⟩:=back s6 σ5 _ I6;subst hP;exact⟨ds.length+1-(i+1),by lia,i+1,σ5,F6,H6,ρ1,vs,r0,_,I8,t8,f8,k5.ext x6,x5.t x6,x6.sh _ _ h5,f6,n5,Ye.mono x6.sf,by rw[Yu];exact YA,er,by lia,S1,rfl⟩
 exact codeAny_compStart_list (loop _ rfl)<|T.self _ 0 _ _ _ tn4<|loop _ rfl
def Cn{cl:List (Str×Addr)}(t:We X N sc)(md:X.calm=true\/(J.VA/\Pw X.A H2))(S:pG N sc N' scope)(I2:Inv X pins σ H2 s2)(T:Bq X.prog X.w X.K tg J fp it tn)(t0:tn 0 s2.heap)(fo2:∀b∈fp,rj X pins H2 b)(k2:Ok X.K B F2 H2 σ ρ)(JO:uh X.K J F2 ds)(hz:ds.length<sizeLine)(WD:∀n c,cl.lookup n=some c->X.env.cells.lookup n=some c)(VZ:∀n,(n,NameKind.free)∈scope.names->∃c,cl.lookup n=some c)(run:∀X',Vo X X' N' (uC scope sc) (BS scope)->Tf X' tg elt ifs ds (ρ++List.replicate (N'.length-N.length) .un) rs){RR:Value->Addr->Result->Shared->Prop}(hRR:∀D' C s',PD X pins σ F2 H2 rs D' C s'->RR (.ref D') C (.ok .next) s'):dR X (newList []) (λacc s₃=>dR X (newFunctionEnv scope X.env.globals cl [] X.env.qual none .none<|some X.env) (λZ7 s₄=>codeAny (model X.prog X.w) X.A (.compStart (.ListComp elt [⟨tg,iter,ifs,0⟩] scope pos) 0 (.ref it) acc {Z7 with scope:=relabel scope X.env}) (RR acc Z7.locals) s₄) E s₃) E s2:=by
 have zC9:∀m c,cl.lookup m=some c->c<(s2.heap.push {cls:=.type "list",data:=.seq ([]:ir).toArray}).objs.size:=λm c e=>by obtain⟨v,q⟩:=I2.cell m c<|WD m c e;rw[fv];exact i7 q.lt
 refine dH (BY zC9 λZ6 h₁ kp₁ Ys CN=>?_);have I3:Inv X pins σ (c6 H2 s2.heap.objs.size<|.lst []) {s2 with heap:=s2.heap.push {cls:=.type "list",data:=.seq ([]:ir).toArray}}:=I2.Yl (t':=s2.toks) (ys:=[]) .nil<|bR _;have W3:H2 s2.heap.objs.size=none:=I2.SA.fresh<|ar _;have hsz:(s2.heap.push {cls:=.type "list",data:=.seq ([]:ir).toArray}).objs.size=s2.heap.objs.size+1:=by rw[fv]
 have tfp:∀b∈fp,b<s2.heap.objs.size:=λb hb=>by obtain⟨o,e,_⟩:=T.obj 0 _ t0 b hb;exact aH e
 refine FQ (s3:={s2 with heap:=s2.heap.push {cls:=.type "list",data:=.seq ([]:ir).toArray}}) t md S rfl (by show s2.heap.objs.size≠(s2.heap.push {cls:=.type "list",data:=.seq ([]:ir).toArray}).objs.size;rw[hsz];exact bw<|fB _) I3 W3 (λb hb=>?_) (λb hb=>?_) T (T.keep 0 _ _ t0 λb hb o e=>Heap.get?_push_of_some _ e) Ys kp₁ k2 JO hz WD VZ CN run hRR
 ·obtain⟨f0,f1⟩:=fo2 b hb;exact⟨by rw[aC<|bw<|tfp b hb];exact f0,f1⟩
 ·show b<(s2.heap.push {cls:=.type "list",data:=.seq ([]:ir).toArray}).objs.size;rw[hsz];exact i7<|tfp b hb
end
section
variable {ds rs:aQ}
def E6(t:We X N sc)(S:pG N sc N' scope)(I:Inv X pins σ H s):∃cl:List (Str×Addr),closureFor scope X.env=pure cl/\(∀n c,cl.lookup n=some c->X.env.cells.lookup n=some c)/\(∀n,(n,NameKind.free)∈scope.names->∃c,cl.lookup n=some c):=DI λn hn=>I.ok.has n<|.inl<|by show X.env.scope.names.lookup n=_;rw[t.eS];exact S.free _ hn rfl
def ka(t:At X N sc)(N':cH)(S:pG N sc N' scope)(hi:WK X ρ tg iter ds)(hz:ds.length<sizeLine)(run:∀X',VX X X' N' (uC scope sc) (BS scope)->Tf X' tg elt ifs ds (ρ++List.replicate (N'.length-N.length) .un) rs)(hs:∀x,foldedSetIterable iter X.env x=pure x:=by intro _;rfl):Ss X ρ (.ListComp elt [⟨tg,iter,ifs,0⟩] scope pos) rs:=λB F H σ Q k q=>.mk λpins s I=>by obtain⟨cl,e1,e2,e3⟩:=E6 t.z S I;rw[eval_ListComp];have h1:=hi B F H σ (λJ H1=>∃F1,Ext ⟨F,H⟩ F1 H1/\uh X.K J F1 ds) k (λJ F' H' x j=>⟨F',x,j⟩) pins s I;refine wpAny_comprehension_free (use:=none) rfl hs e1 S.kind S.names (dW h1 λv s1 h=>dW h λZr s2 h2=>?_);obtain⟨it,fp,tn,J,H',e,I2,T,t0,fo,F1,x1,JO⟩:=h2;subst e;refine Cn (RR:=λacc C=>compPost (model X.prog X.w) X.A X.xe none (EP X pins σ Q) acc C) t.z (.inl t.calm) S I2 T t0 fo (k.ext x1) JO hz e2 e3 (λX' c0=>run X'<|c0.calm t.calm) ?_;rintro D' C s' ⟨F',Xl,vs,m,IX,hm,h0,hL,hs0,hcl,hpn,x',hd0,hd,hf,rv,hDC⟩;refine⟨m,hm,λh'' sb=>?_⟩;have IX':Inv X pins σ Xl {s' with heap:=h''}:=IX.turned (t':=s'.toks) (it:=C) (λb o hb e=>sb.extBut b o hb e) h0 hL (.inr hs0) hcl hpn;exact⟨.ref D',Xl,IX',rfl,q D' vs F' Xl (x1.t x') (x1.sh.free hd0) hd hf rv⟩
def Fq{Za:Pos}[Vh X](t:At X N sc)(i:Nat)(N':cH)(S:pG N sc N' scope)(hi:WK X ρ tg iter ds)(hz:ds.length<sizeLine)(run:∀X',VX X X' N' (uC scope sc) (BS scope)->Tf X' tg elt ifs ds (ρ++List.replicate (N'.length-N.length) .un) rs)(V7:swapsWith (.ListComp elt [⟨tg,iter,ifs,0⟩] scope pos) (some<|.Name y py) Za.line (dE sc)=pure true:=by rfl)(hN:N[i]?=some y:=by rfl)(hy:nJ sc y=true:=by rfl)(hs:∀x,foldedSetIterable iter X.env x=pure x:=by intro _;rfl):SQ X ρ (.Assign [.Name y py] (.ListComp elt [⟨tg,iter,ifs,0⟩] scope pos) Za) (.nx<|ρ.set i<|.own rs):=λB F H σ E k q=>.mk λpins s I=>by
 obtain⟨cl,e1,e2,e3⟩:=E6 t.z S I;rw[exec_Assign_Name_used _ _ _ _<|(L9 (show X.env.scope=(dE sc).scope from t.eS)).trans V7];refine ag<|qE<|ag ?_;show wpAny _ X.A (do let _ <-comprehension (.ListComp elt [⟨tg,iter,ifs,0⟩] scope pos) scope X.env _ (newList []) false (eval iter X.env) (some<|assign (.Name y py) X.env)) _ _ s;have h1:=hi B F H σ (λJ H1=>∃F1,Ext ⟨F,H⟩ F1 H1/\uh X.K J F1 ds) k (λJ F' H' x j=>⟨F',x,j⟩) pins s I;refine ag (aL (wpAny_comprehension_free (use:=some<|assign (.Name y py) X.env) (Q:=λ_ s'=>SP X pins E .next s') rfl hs e1 S.kind S.names (dW h1 λv s1 h=>dW h λZr s2 h2=>?_)) (λ_ s' hq=>aA<|aA hq) λ_ _ e=>e);obtain⟨it,fp,tn,J,H',e,I2,T,t0,fo,F1,x1,JO⟩:=h2;subst e;refine Cn (RR:=λacc C=>compPost (model X.prog X.w) X.A X.xe (some<|assign (.Name y py) X.env) (λ_ s'=>SP X pins E .next s') acc C) t.z (.inl t.calm) S I2 T t0 fo (k.ext x1) JO hz e2 e3 (λX' c0=>run X'<|c0.calm t.calm) ?_;rintro D' C s' ⟨F',Xl,vs,m,IX,hm,h0,hL,hs0,hcl,hpn,x',hd0,hd,hf,rv,hDC⟩;show wpAny _ X.A (assign (.Name y py) X.env<|.ref D') _ _ s';refine wpAny_assign_Name<|yr (v:=.ref D') IX t.nd (t.ix hN) (t.loc hy) rfl (λUO I'' Zu=>?_) Gn;obtain⟨a,sb,ha⟩:=Zu;have hCa:C≠a:=by
  rcases ha with z |z;·rw[z];exact hL
  ·exact cV<|hcl y a z
 refine⟨m,hm.sameBut sb hCa,λh'' Zd=>?_⟩;have I3:Inv X pins (σ.set i<|some<|.ref D') Xl {UO with heap:=h''}:=I''.turned (t':=UO.toks) (it:=C) (λb o hb e=>Zd.extBut b o hb e) h0 hL (.inr hs0) hcl hpn;have k1:=k.ext<|x1.t x';have hH:H D'=none:=x1.sh.free hd0;exact⟨_,Xl,I3,q F' Xl _ (k1.V3 i hd hf (k.sh.free hH) (k.noOwn hH) rv) (x1.t x').sf⟩
def Tf.all(R:D->cA)(f:D->D):∀(ds:aQ)(ρ:cA),(∀d∈ds,Ve X ρ tg d<|R d)->(∀d∈ds,∀e∈ds,Ve X (R d) tg e<|R e)->(∀d∈ds,Se X (R d) elt<|f d)->Tf X tg elt [] ds ρ (ds.map f)|[],_,_,_,_=>.nil|d::ds,ρ,h1,h2,h3=>.take (h1 d bX) (.inl rfl) (h3 d bX) (Tf.all R f ds (R d) (λe he=>h2 d bX e<|aM _ he) (λa ha e he=>h2 a (aM _ ha) e<|aM _ he) λe he=>h3 e<|aM _ he)
end
def Pa(N:cH)(sc:Scope)(N':cH)(scope:Scope):Bool:=
 decide (scope.kind=.function)&&scope.names.all (λy=>decide<|y.2=.cell->scope.names.lookup y.1=some .cell)&&scope.names.all (λy=>decide<|y.2=.local->scope.names.lookup y.1=some .local)&&scope.names.all (λy=>decide<|y.2=.free->sc.names.lookup y.1=some .cell)&&decide (sc.kind=.function)&&decide N'.Nodup&&(List.range N.length).all (λi=>match N'[i]? with
   |some x=>!(fO (uC scope sc) x)||(decide (N[i]?=some x)&&decide (scope.names.lookup x=some .free))
   |none=>true)&&decide (N.length<=N'.length)
def IV{scope:Scope}(h:Pa N sc N' scope=true):pG N sc N' scope:=by unfold Pa at h;simp only[dM,bj,nR]at h;obtain⟨⟨⟨⟨⟨⟨⟨h1,h2⟩,h3⟩,h4⟩,h5⟩,h6⟩,h7⟩,h8⟩:=h;refine⟨h1,h2,h3,h4,h5,h6,λi x hi hx hv=>?_,h8⟩;have q:=h7 i<|List.mem_range.mpr hi;rw[hx]at q;simp only[hv,Bool.not_true,iz,dM,bj]at q;exact q
def Ix{X:Cx}{x:Str}(hm:X.mg x=none)(g:uY sc x:=by rfl)(v:bootBuiltins x=some u:=by rfl)(n:x≠"__name__":=by decide)(d:qF x:=by rfl):mf X sc x u:=⟨g,hm,v,n,d⟩
abbrev cG(f:bh):D:=.tup<|f.map D.int
abbrev eU(f:bh):D:=.lst<|f.map D.int
def sS{xs:bh}{i:Int}{n:Nat}(h0:0<=i)(hn:i.toNat=n)(h:n<xs.length):kS (xs.map D.int) i=some (.int xs[n]):=by
 have e:i=((n:Nat):Int):=by lia
 subst e;exact dJ<|by rw[List.getElem?_map,List.getElem?_eq_getElem h];rfl
def Dt{n:Nat}{i:Int}{j:Nat}(h0:0<=i)(hn:i.toNat=j)(h:j<n):EI n i=some j:=by unfold EI;rw[ax h0,ax<|by lia,hn]
def Cd(xs ys:bh):PyData.eqvAll (xs.map PyData.int) (ys.map PyData.int)=decide (xs=ys):=by
 induction xs generalizing ys with
 |nil=>cases ys<;>simp[PyData.eqvAll]
 |cons x xs ih=>cases ys with|nil=>simp[PyData.eqvAll]|cons y ys=>simp only[aP,PyData.eqvAll,PyData.eqv,ih];by_cases h1:x=y<;>by_cases h2:xs=ys<;>simp[h1,h2]
def nv(xs ys:bh):(fS<|cG xs).eqv (fS<|cG ys)=decide (xs=ys):=by show(PyData.tuple<|Sq<|xs.map D.int).eqv (.tuple<|Sq<|ys.map D.int)=_;rw[jc,jc];simp only[PyData.eqv];exact Cd xs ys
def AK(xs ys:bh):(PyData.list<|Sq<|xs.map D.int).eqv (.list<|Sq<|ys.map D.int)=decide (xs=ys):=by rw[jc,jc];simp only[PyData.eqv];exact Cd xs ys
def Cp(xs:bh):PyData.canLayAll0 (xs.map PyData.int)=true:=PySem.W.canLayAll0_ints xs
def c7(xs:bh):SeqAt.shaped (fS<|cG xs)=true:=by
 show SeqAt.shaped (.tuple<|Sq<|xs.map D.int)=true;rw[jc];have h1:=PySem.W.depthAll_ints xs;have h2:PyData.depth (.tuple<|xs.map PyData.int)<=64:=by simp only[PyData.depth];lia
 show(PyData.canLay0 (.tuple<|xs.map PyData.int)&&decide (PyData.depth (.tuple<|xs.map PyData.int)<=64))=true;rw[dM];exact⟨by simp only[PyData.canLay0];exact Cp xs,ap h2⟩
def gZ(xs:bh):SeqAt.shaped (PyData.list<|Sq<|xs.map D.int)=true:=by rw[jc];exact Sb xs
inductive U4:cA->cA->Prop where
 |nil:U4 [] []
 |keep {s:Sl} {a b:cA}:U4 a b->U4 (s::a) (s::b)
 |forget {s:Sl} {a b:cA}:U4 a b->U4 (s::a) (.un::b)
def U4.len:∀{a b:cA},U4 a b->a.length=b.length
 |_,_,.nil=>rfl|_,_,.keep h=>aV Nat.succ h.len
 |_,_,.forget h=>aV Nat.succ h.len
def U4.get:∀{a b:cA},U4 a b->∀(i:Nat)(s:Sl),b[i]?=some s->s≠.un->a[i]?=some s
 |_,_,.nil,_,_,h,_=>by simp at h|_,_,.keep h,0,s,e,_=>by simpa using e
 |_,_,.keep h,i+1,s,e,hn=>by simpa using h.get i s (by simpa using e) hn|_,_,.forget h,0,s,e,hn=>by simp at e;exact absurd e.symm hn
 |_,_,.forget h,i+1,s,e,hn=>by simpa using h.get i s (by simpa using e) hn
def Ok.weak{K:ce}(k:Ok K B F H σ a)(w:U4 a b):Ok K B F H σ b:=⟨k.toExt,k.len.trans w.len,λi d h=>k.vals i d (w.get i _ h λz=>nomatch z),λi xs h=>k.Tj i xs (w.get i _ h λz=>nomatch z),λi j xs ys p h1 h2=>k.dist i j xs ys p (w.get i _ h1 λz=>nomatch z) (w.get j _ h2 λz=>nomatch z),k.So.to (.refl _) (λ_ _ e1 e2 _=>⟨e1,e2⟩) λi kvs h=>⟨w.get i _ h (λz=>nomatch z),rfl⟩⟩
def Sf.weak(h:Sf X ρ T1 (.nx ρ1))(w:U4 ρ1 ρ2):Sf X ρ T1 (.nx ρ2):=λB F H σ E k q=>h B F H σ E k λF' H' σ' k' s'=>q F' H' σ' (k'.weak w) s'
def Sg.eq{b':Bool}(h:Sg X ρ e b)(q:b=b'):Sg X ρ e b':=q▸h
def Se.eq{d':D}(h:Se X ρ e d)(q:d=d'):Se X ρ e d':=q▸h
def Ss.eq{d':aQ}(h:Ss X ρ e d)(q:d=d'):Ss X ρ e d':=q▸h
def Vd.eq{d':aQ}(h:Vd X ρ e k d)(q:d=d'):Vd X ρ e k d':=q▸h
def Sf.eq{o':Out}(h:Sf X ρ T1 o)(q:o=o'):Sf X ρ T1 o':=q▸h
def SQ.eq{st:Stmt}{o':Out}(h:SQ X ρ st o)(q:o=o'):SQ X ρ st o':=q▸h
def SJ.same(ρ:cA):∀(ds:aQ),(∀d∈ds,∃ρ1,Vi X ρ tg d ρ1/\Sf X ρ1 body (.nx ρ))->SJ X tg body ds ρ (.nx ρ)|[],_=>.nil|d::ds,h=>by obtain⟨ρ1,h1,h2⟩:=h d bX;exact .cons h1 h2 (SJ.same ρ ds λe he=>h e<|aM _ he)
def SJ.Xq{ds:aQ}(R:Nat->cA)(h:∀(j:Nat)d,ds[j]?=some d->∃ρ1,Vi X (R j) tg d ρ1/\Sf X ρ1 body (.nx<|R<|j+1)):SJ X tg body ds (R 0) (.nx<|R ds.length):=by
 have q:=SJ.of (X:=X) (tg:=tg) body R ds 0 λj d e=>by obtain⟨ρ1,h1,h2⟩:=h j d e;exact⟨ρ1,by simpa using h1,by simpa using h2⟩
 simpa using q
def SJ.SY{ds:aQ}{ρ ρ':cA}(R:Nat->cA)(h:∀(j:Nat)d,ds[j]?=some d->∃ρ1,Vi X (R j) tg d ρ1/\Sf X ρ1 body (.nx<|R<|j+1))(e0:R 0=ρ)(e1:R ds.length=ρ'):SJ X tg body ds ρ (.nx ρ'):=by subst e0;subst e1;exact SJ.Xq R h
def tL{j:Int}(h1: -(2 ^ 64)<j)(h2:j<2 ^ 64):IntMulOk i j:=.of_right<|intBits_le_64 h1 h2
def iO{i j:Int}(h1: -(2 ^ 64)<i)(h2:i<2 ^ 64):IntMulOk i j:=.of_left<|intBits_le_64 h1 h2
def kR(xs:bh)(lo hi:Option Int):bh:=(xs.drop<|HT.UI xs.length 0 lo).take<|HT.UI xs.length xs.length hi-HT.UI xs.length 0 lo
def sK(xs:bh)(lo hi:Option Int):cutD (xs.map D.int) lo hi=(kR xs lo hi).map D.int:=by unfold cutD kR;rw[aj,PF,uk]
def Iu(xs:bh)(lo hi:Option Int):(kR xs lo hi).length<=xs.length:=by unfold kR;rw[cQ,bP];lia
def G5(k:Nat)(n:Int):(List.replicate k [D.int n]).flatten=(List.replicate k n).map D.int:=by induction k with|zero=>rfl|succ k ih=>rw[bc,cY,ih,bc,aP];rfl
def Tf.gen{α:Type}(g f:α->D)(R:α->cA):∀(xs:List α)(ρ:cA),(∀x∈xs,Ve X ρ tg (g x)<|R x)->(∀x∈xs,∀y∈xs,Ve X (R x) tg (g y)<|R y)->(∀x∈xs,Se X (R x) elt<|f x)->Tf X tg elt [] (xs.map g) ρ (xs.map f)|[],_,_,_,_=>.nil|x::xs,ρ,h1,h2,h3=>.take (h1 x bX) (.inl rfl) (h3 x bX) (Tf.gen g f R xs (R x) (λe he=>h2 x bX e<|aM _ he) (λa ha e he=>h2 a (aM _ ha) e<|aM _ he) λe he=>h3 e<|aM _ he)
def Bm{xs:bh}{i:Int}(h0:0<=i)(h:i.toNat<xs.length):kS (xs.map D.int) i=some (.int<|xs.getD i.toNat 0):=by rw[sS h0 rfl h,List.getD_eq_getElem?_getD,List.getElem?_eq_getElem h];rfl
def y8:(sizeLine:Nat)=16777216:=xx
open AutoSeq1 (wpAny_loadPart')
def uF{Q:qh}{s:Shared}(hit:s.heap.IsTupleIter it t i)(ht:s.heap.IsTuple t items)(hx:items[i]?=some x)(hQ:∀h',h'.IsTupleIter it t (i+1)->Heap.SameBut it s.heap h'->Q x {s with heap:=h'}):wpAny (model prog w) A (Builtin.SmallTypes.nextOf<|.ref it) Q E s:=by obtain⟨o,ho,hc,hd⟩:=id hit;obtain⟨ol,Zy,_,nl,WZ⟩:=ht;unfold Builtin.SmallTypes.nextOf;refine ag<|wpAny_callSpecial?_slot (name:=Str.ofString "__next__") hit.typeIs km<|iw km hit.typeIs RH ?_<|Rx _;show wpAny _ _ (field (.ref it) 0>>=_) _ _ s;refine ag<|fu ho hd (x:=.ref t) rfl ?_;show wpAny _ _ (if(Value.ref t==Value.none)=true then _ else _) _ _ s;rw[av (show¬((Value.ref t==Value.none)=true)from ay)];show wpAny _ _ (field (.ref it) 1>>=_) _ _ s;refine ag<|fu ho hd (x:=.int i 0) rfl ?_;show wpAny _ _ (seqItems? (.ref t)>>=_) _ _ s;refine ag<|wpAny_seqItems Zy WZ ?_;simp only[aO,hx];refine ag<|ki ho hd (by simp)<|aA ⟨x,rfl,aA<|hQ _ ?_<|td ..⟩;exact⟨_,Heap.get?_update_self _ ho<|D1<|mM hd _,(Obj.cls_mapFields ..).trans hc,by rw[mM hd];simp[rawInt]⟩
def oG{A:Around}{E:qh}{s:Shared}(hh:A.handled=none)(hit:s.heap.IsTupleIter it t i)(ht:s.heap.IsTuple t items)(hx:items[i]?=none)(hE:∀h' e,Heap.ExtBut it s.heap h'->(∃o,h'.get? e=some o/\o.cls=.type "StopIteration")->E (.ref e) {s with heap:=h'}):wpAny (model prog w) A (Builtin.SmallTypes.nextOf<|.ref it) Q E s:=by
 obtain⟨o,ho,hc,hd⟩:=id hit;obtain⟨ol,Zy,_,nl,WZ⟩:=ht;unfold Builtin.SmallTypes.nextOf;refine ag<|wpAny_callSpecial?_slot (name:=Str.ofString "__next__") hit.typeIs km<|iw km hit.typeIs RH ?_<|Rx _;show wpAny _ _ (field (.ref it) 0>>=_) _ _ s;refine ag<|fu ho hd (x:=.ref t) rfl ?_;show wpAny _ _ (if(Value.ref t==Value.none)=true then _ else _) _ _ s;rw[av (show¬((Value.ref t==Value.none)=true)from ay)];show wpAny _ _ (field (.ref it) 1>>=_) _ _ s;refine ag<|fu ho hd (x:=.int i 0) rfl ?_;show wpAny _ _ (seqItems? (.ref t)>>=_) _ _ s;refine ag<|wpAny_seqItems Zy WZ ?_;simp only[aO,hx];refine ag<|wpAny_rule<|ag<|ki ho hd (by simp) ?_;show wpAny _ _ (newExc (.type "StopIteration") []>>=_) _ _ _;refine ag ?_;simp only[newExc,newTuple];refine ag<|dH ?_ (by size_fits);refine ag (m:=firstArgMember _ _)<|gI (a:=Value.none) (by first |rfl |(simp only[firstArgMember];rfl)) ?_;refine dH ?_ (by size_fits);simp only[raiseNew];refine ag<|wpAny_handled ?_;first |rw[show A.in1.handled=none from hh] |rw[hh]
 refine ag<|aA<|wpAny_throw ?_;exact hE _ _ (((td ..).extBut.push _).push _) ⟨_,Heap.get?_push_size _ rfl,rfl⟩
def FN{A:Around}(hh:A.handled=none)(it t:Addr)(UQ:t≠it)(items:Array Value):Draws prog w A it [it,t] items.size (λi v=>items[i]?=some v) (λi h=>h.IsTupleIter it t i/\h.IsTuple t items) where
 live:=λ_ _ st=>let⟨o,ho,_⟩:=st.1;⟨o,ho⟩
 frame:=λ_ _ _ st hk=>⟨st.1.at λo e=>hk it (by simp) o e,let⟨o,e,r⟩:=st.2;⟨o,hk t (by simp) o e,r⟩⟩
 item:=λi s Q E hi st hQ=>by refine uF st.1 st.2 (x:=items[i]) (by simp[hi]) λh' zCX hs'=>?_;exact hQ _ h' s.toks (by simp[hi]) ⟨zCX,let⟨o,e,r⟩:=st.2;⟨o,hs'.extBut t o UQ e,r⟩⟩ hs'
 done:=λs Q E st hE=>oG hh st.1 st.2 (by simp) hE
def BZ(l:Addr)(items:Array Value)(n:Nat)(TQ:Option Addr)(sl:Array (Option Value)):Meets (Builtin.«enumerate.__new__» ⟨[.type "enumerate",.ref l],[]⟩) (λ_ R s=>s.heap.get? l=some {cls:=.type "tuple",dict:=TQ,data:=.seq items n,slots:=sl}/\R (.ok<|.ret<|.ref (s.heap.push {cls:=.type "tuple_iterator",data:=.fields #[.ref l,.int 0 0]}).objs.size) {s with heap:=(s.heap.push {cls:=.type "tuple_iterator",data:=.fields #[.ref l,.int 0 0]}).push {cls:=.type "enumerate",data:=.fields #[.none,.bool false,.ref s.heap.objs.size,rawInt 0,.none,.none]}}):=.of_wp λprog w A R s h=>by
  obtain⟨hp,g,d,tk,os⟩:=s;obtain⟨hl,h⟩:=h;have zJV:=sub_enumerate;have hL:Heap.IsTuple (Shared.heap ⟨hp,g,d,tk,os⟩) l items:=⟨_,hl,rfl,n,rfl⟩
  wp_walk using jp hl
  refine wpAny_stack_any λst=>aA ?_;split
  ·rename_i c _ _ _ _ _;cases(c==Value.type "enumerate")
   ·wp_walk using jp hl,uV hL
    exact⟨_,rfl,h⟩
   ·wp_walk using jp hl,uV hL
    exact⟨_,rfl,h⟩
  ·wp_walk using jp hl,uV hL
   exact⟨_,rfl,h⟩
def DK{Q:qh}{s:Shared}(hL:s.heap.IsTuple l items)(h:∀h',IsEnum h' (s.heap.objs.size+1) s.heap.objs.size 0 .none->h'.IsTupleIter s.heap.objs.size l 0->h'.objs.size=s.heap.objs.size+2->(∀b o,s.heap.get? b=some o->h'.get? b=some o)->Q (.ref<|s.heap.objs.size+1) {s with heap:=h'}):wpAny (model prog w) A (call (.type "enumerate") [.ref l]) Q E s:=by
 obtain⟨⟨c,TQ,dt,sl⟩,hl,hc,n,hd⟩:=hL;replace hc:c=.type "tuple":=hc;replace hd:dt=.seq items n:=hd;subst hc hd;refine callType_new F.called_enumerate (by decide) (F.typeCall_enumerate_1 _) (F.newCall_enumerate_1 _) (λobj=>F.args_object_init_2 obj _) F.entry_enumerate_new (BZ l items n TQ sl) ⟨hl,?_⟩;have hz:(s.heap.push {cls:=.type "tuple_iterator",data:=.fields #[.ref l,.int 0 0]}).objs.size=s.heap.objs.size+1:=fv ..;show _/\_;rw[hz];have he:IsEnum ((s.heap.push {cls:=.type "tuple_iterator",data:=.fields #[.ref l,.int 0 0]}).push {cls:=.type "enumerate",data:=.fields #[.none,.bool false,.ref s.heap.objs.size,rawInt 0,.none,.none]}) (s.heap.objs.size+1) s.heap.objs.size 0 .none:=by have:=Heap.get?_push_size (s.heap.push {cls:=.type "tuple_iterator",data:=.fields #[.ref l,.int 0 0]}) (o:={cls:=.type "enumerate",data:=.fields #[.none,.bool false,.ref s.heap.objs.size,rawInt 0,.none,.none]}) rfl;rw[hz]at this;exact this
 refine⟨⟨_,he,rfl⟩,h _ he ⟨_,Heap.get?_push_of_some _<|Heap.get?_push_size _ rfl,rfl,rfl⟩ (by rw[fv,hz]) λb o x=>Heap.get?_push_of_some _<|Heap.get?_push_of_some _ x⟩
def Rr(K:ce)(a:Addr):It:=⟨λi H=>∃xs x,Uu K H a xs/\xs[i]?=some x,λi H x H'=>∃p,H p=none/\x=.ref p/\∀xs,Uu K H a xs->∃v,xs[i]?=some v/\H'=c6 H p (.tup [.int i,v]),λi H=>∃xs,Uu K H a xs/\xs.length<=i,False⟩
def Inv.Y2{h':Heap}{t':Nat}{e it:Addr}(I:Inv X pins σ H s)(k:∀b o,b≠e->b≠it->s.heap.get? b=some o->h'.get? b=some o)(fe:rj X pins H e)(fi:rj X pins H it):Inv X pins σ H {s with heap:=h',toks:=t'}:=by
 obtain⟨e0,e1,e2,e3,e4,e5⟩:=fe;obtain⟨i0,i1,i2,i3,i4,i5⟩:=fi;refine I.step (g':=s.gens) (d':=s.drawn) (ch:=[e,it]) (λb hb=>?_) (λb o _ _ hc q _=>k b o (λz=>hc<|by simp[z]) (λz=>hc<|by simp[z]) q) (λb o _ _ hc q _=>⟨o.slots,k b o (λz=>hc<|by simp[z]) (λz=>hc<|by simp[z]) q⟩) (λ_ _ _ _ n=>n) (λb o hc q=>⟨o,k b o (λz=>hc<|by simp[z]) (λz=>hc<|by simp[z]) q⟩) (λ_ _ q=>q) (λ_ _ _ q=>q) (λb ps q=>⟨#[],by rw[q];simp⟩) (λm hm=>?_) (λb u q=>?_) I.bare
 ·rcases List.mem_cons.mp hb with rfl |hb;·exact⟨e3,e1,e4,e5⟩
  ·rw[bu.mp hb];exact⟨i3,i1,i4,i5⟩
 ·obtain⟨o,es,ep,ho,r⟩:=hm;exact⟨o,es,ep,k _ o (cV e1) (cV i1) ho,r⟩
 ·have ne:∀c v,H c=some v->c≠e/\c≠it:=λc v q=>⟨(λz=>by rw[z,e0]at q;cases q),(λz=>by rw[z,i0]at q;cases q)⟩;refine(I.SA b u q).Vp (λc v hc r=>?_) (λ_ r=>r) λ_ _ r=>r;rcases hc with z |z;·subst z;exact k c v (ne c _ q).1 (ne c _ q).2 r
  ·exact k c v (ne c _ z).1 (ne c _ z).2 r
def Inv.Y4{p:Addr}(I:Inv X pins σ H s)(hp:H p=none)(h1:X.s₀.heap.objs.size<=p)(h2:p≠X.env.locals)(h3:∀x c,X.env.cells.lookup x=some c->c≠p)(h4:∀q∈X.pn++pins,q.1≠p)(new:Su X.prog X.w (c6 H p o) s.heap p o):Inv X pins σ (c6 H p o) s:=by
 have old:∀b ob,X.s₀.heap.get? b=some ob->b≠p:=λb ob e=>bw<|aW (aH e) h1;refine⟨I.ok,I.os,I.bare,⟨I.base.keep,I.base.slot,λb ob e n hx=>by rw[aC<|old b ob e];exact I.base.free b ob e n hx,I.base.there,λb xs e=>?_,λb ob u e=>?_,λb ps e=>?_⟩,I.loc,I.cell,by rw[aC<|cV h2];exact I.free,λx c e=>by rw[aC<|h3 x c e];exact I.TV x c e,λq hq=>?_,λb u e=>?_,I.len⟩;·have q:=I.base.TZ b xs e;rw[aC<|dZ q hp];exact q
 ·have q:=I.base.TC b ob u e;rw[aC<|dZ q hp];exact q
 ·obtain⟨more,q⟩:=I.base.T6 b ps e;exact⟨more,by rw[aC<|dZ q hp];exact q⟩
 ·obtain⟨a,b,c⟩:=I.pin q hq;exact⟨a,by rw[aC<|h4 q hq];exact b,c⟩
 ·by_cases hb:b=p;·subst hb;rw[aI]at e;cases e;exact new
  ·rw[aC hb]at e;exact(I.SA b u e).Vp (λ_ _ _ q=>q) (λc q=>by rw[aC<|dZ q hp];exact q) λc xs q=>by rw[aC<|dZ q hp];exact q
def Fj{K:ce}(a e it:Addr)(UQ:e≠it):Bq P w K (.Tuple es x1 pos) (Rr K a) [e,it] e (λi h=>(∃old,IsEnum h e it i old)/\h.IsTupleIter it a i) where
 mem:=by simp
 obj:=λi h st b hb=>by
  obtain⟨⟨old,he⟩,o,ho,c,d⟩:=st;rcases List.mem_cons.mp hb with rfl |hb;·exact⟨_,he,λv z=>by cases z⟩
  ·rw[bu.mp hb];exact⟨o,ho,λv z=>by rw[d]at z;cases z⟩
 keep:=λi h h' st k=>by obtain⟨⟨old,he⟩,hi⟩:=st;exact⟨⟨old,k e (by simp) _ he⟩,hi.at λo q=>k it (by simp) o q⟩
 item:=by
  intro X hP hw hK hc i pins s σ H E I hf st hg;subst hP hw hK;replace hc:=hc.resolve_right λz=>z.1;obtain⟨⟨old,he⟩,hit⟩:=st;obtain⟨xs,x,hq,hx⟩:=hg;obtain⟨its,rv,p,hz⟩:=I.tuple hq;obtain⟨u,hu,ru⟩:=rv.get hx;have fe:=hf e (by simp);have fi:=hf it (by simp);have S1:i<its.length:=(List.getElem?_eq_some_iff.mp hu).1;obtain⟨oa,hoa,hca,na,hda⟩:=id p;have hae:e≠a:=λz=>by subst z;rw[he]at hoa;cases hoa;have z':Value.type "enumerate"=Value.type "tuple":=hca;injection z' with z2;exact absurd z2<|by decide
  have hai:a≠it:=λz=>by subst z;obtain⟨oi,hoi,hci,_⟩:=hit;rw[hoa]at hoi;cases hoi;rw[hca]at hci;injection hci with z2;exact absurd z2<|by decide
  have Dr:=FN (prog:=X.prog) (w:=X.w) (A:=X.A.in1) (I.ok.hd hc) it a hai its.toArray;refine wpAny_pyNext_enum_itemD Dr he ⟨hit,p⟩ (by simpa using S1) UQ (by simp[hae,UQ]) λy h' tk hy ho Vz hT hsz hk=>?_;have ey:y=u:=by
   have:its[i]?=some y:=by simpa using hy
   rw[hu]at this;exact(bz this).symm
  subst ey;refine⟨_,rfl,wpAny_letOwnedTupleGo_enum ho λh2 he2 sb=>?_⟩;have hTe:s.heap.objs.size≠e:=mj<|aH he;have hTi:s.heap.objs.size≠it:=by obtain⟨oi,hoi,_⟩:=id hit;exact mj<|aH hoi
  have Zd:Heap.SameBut e h' h2:=sb;have kk:∀b o,b≠e->b≠it->s.heap.get? b=some o->h2.get? b=some o:=λb o h1 ZR q=>Zd.extBut b o h1<|hk b o h1 ZR q;have I1:Inv X pins σ H {s with heap:=h2,toks:=tk+1}:=Inv.Y2 I kk fe fi;have hp0:H s.heap.objs.size=none:=I.SA.fresh<|ar _;have hT2:h2.get? s.heap.objs.size=some {cls:=.type "tuple",data:=.seq #[.int i tk,y]}:=Zd.extBut _ _ hTe hT;have I2:Inv X pins σ (c6 H s.heap.objs.size<|.tup [.int i,x]) {s with heap:=h2,toks:=tk+1}:=by
   refine Inv.Y4 I1 hp0 I.sz (mj I.lt) (λz c h=>?_) (λq hq2 z=>?_) ⟨fK rfl,[.int i tk,y],.cons ⟨tk,rfl⟩<|.cons ru .nil,⟨_,hT2,rfl,0,rfl⟩⟩;·obtain⟨v,hv⟩:=I.cell z c h;exact bw hv.lt
   ·have:=aH (I.pin q hq2).1;rw[z]at this;exact absurd this<|eT _
  refine⟨.ref s.heap.objs.size,_,I2,rfl,⟨s.heap.objs.size,hp0,rfl,λys hys=>⟨x,by rw[I.Vr hys hq];exact hx,rfl⟩⟩,⟨⟨_,by simpa using he2⟩,Vz.1.at λo q=>Zd.extBut it o (cV UQ) q⟩,λb hb=>?_⟩;have bT:b≠s.heap.objs.size:=by
   rcases List.mem_cons.mp hb with rfl |hb;·exact cV hTe
   ·rw[bu.mp hb];exact cV hTi
  rw[aC bT];exact(hf b hb).1
 done:=by intro X hP hw hK hc i pins s σ H E I hf st hg;subst hP hw hK;replace hc:=hc.resolve_right λz=>z.1;obtain⟨⟨old,he⟩,hit⟩:=st;obtain⟨xs,hq,hx⟩:=hg;obtain⟨its,rv,p,hz⟩:=I.tuple hq;have fi:=hf it (by simp);obtain⟨f0,f1,f2,f3,f4,f5⟩:=fi;have hl:=rv.length;have hT:s.TypeIs (.ref e) "enumerate":=⟨_,he,rfl⟩;unfold pyNext;refine ag<|IW<|wpAny_callSpecial?_slot (name:=Str.ofString "__next__") hT F.slot_enumerate_next<|iw F.slot_enumerate_next hT F.entry_enumerate_next ?_<|F.args_enumerate_next_1 _;show wpAny _ _ (field (.ref e) 2>>=_) _ _ _;refine ag<|fu he rfl (x:=.ref it) rfl ?_;refine ag (oG (I.ok.hd hc) hit p (by simp;lia) λh' x ZN Wi=>?_);obtain⟨o,ho,V0⟩:=Wi;refine ag<|Bs (T:="StopIteration") (b:=true) ⟨o,ho,V0⟩ R4 ?_;exact aA ⟨rfl,I.turned (t':=s.toks) (λb o hb e=>ZN b o hb e) f0 f1 f3 f4 f5⟩
 self:=λ_ _ s Q E st h=>by obtain⟨⟨old,he⟩,hit⟩:=st;exact wpAny_pyIter_enum he h
def O3(K:ce)(ta:TA):TI:=λσ H R=>ta σ H λvs H1=>∃a,vs=[.ref a]/\(∃xs,Uu K H1 a xs)/\R (Rr K a) H1
def JP(hg:Gl X "enumerate")(hm:X.mg "enumerate"=none)(hl:PA X [a] ta)(hs:Pl a):PI X (.Tuple es x1 tp) (.Call (.Name "enumerate" p) [a] [] pos) (O3 X.K ta):=by
 intro pins s σ H R I h;refine Call_<|wz I hg hm (show bootBuiltins "enumerate"=some (.type "enumerate")by decide)<|qf (dW (hl pos pins s σ H _ I h) λus s1 ⟨vs,H1,I1,r1,q1⟩=>?_) (hs _ _) rfl;obtain⟨l,rfl,⟨xs,hq⟩,q⟩:=q1;obtain⟨u,rfl,ru⟩:=kT r1;cases(show u=Value.ref l from ru);obtain⟨its,rv,pt,hz⟩:=I1.tuple hq;refine DK pt λh' he hi hsz kp=>?_;have I2:Inv X pins σ H1 {s1 with heap:=h'}:=I1.kept (t':=s1.toks) kp;refine wpAny_pyIter_enum he ?_;have fr:∀b,s1.heap.objs.size<=b->rj X pins H1 b:=λb hb=>I1.Wv hb<|I1.SA.fresh hb;refine⟨s1.heap.objs.size+1,[s1.heap.objs.size+1,s1.heap.objs.size],_,_,H1,rfl,I2,Fj l _ _<|mj<|fB _,⟨⟨_,he⟩,hi⟩,λb hb=>?_,q⟩;rcases List.mem_cons.mp hb with rfl |hb;·exact fr _<|by lia
 ·rw[bu.mp hb];exact fr _<|ar _
def zb(ds:aQ):aQ:=(List.range ds.length).map λ(i:Nat)=>.tup [.int (i:Int),ds.getD i .Sy]
def mH{i:Nat}(h:(zb ds)[i]?=some d):∃e,ds[i]?=some e/\d=.tup [.int (i:Int),e]:=by
 unfold zb at h;rw[List.getElem?_map]at h;by_cases hi:i<ds.length;·rw[List.getElem?_range hi]at h;cases h;exact⟨ds[i],List.getElem?_eq_getElem hi,by show D.tup [D.int (i:Int),ds.getD i .Sy]=_;rw[List.getD_eq_getElem?_getD,List.getElem?_eq_getElem hi];rfl⟩
 ·rw[List.getElem?_eq_none<|by simpa using hi]at h;cases h
def mG:(zb ds).length=ds.length:=by simp[zb]
def M8{K:ce}{F:Hp}{l:Addr}(hf:F l=some (.tup vs))(r:Sh K F vs ds):uh K (Rr K l) F (zb ds):=λi F2 H2 s1 s2=>⟨λd hd=>by obtain⟨e,he,rfl⟩:=mH hd;obtain⟨v,hv,rv⟩:=r.get he;have sq:Uu K H2 l vs:=Uu.of<|s2 _ _<|s1 _ _ hf;refine⟨⟨vs,v,sq,hv⟩,λx H' y=>?_⟩;obtain⟨p,hp,rfl,y⟩:=y;obtain⟨v',hv',rfl⟩:=y vs sq;rw[hv]at hv';cases hv';exact⟨_,(Ext.refl s2).grow hp,.tup aI<|.cons (.int _)<|.cons ((rv.mono s1).mono<|aU<|s2.free hp) .nil⟩,λh=>⟨vs,Uu.of<|s2 _ _<|s1 _ _ hf,by rw[r.length];rw[mG]at h;exact h⟩⟩
def vj(t:At X N sc)(bl:mf X sc "enumerate" (.type "enumerate"))(h:Se X ρ a (.tup ds))(hs:Pl a:=by intro _ _;rfl):WK X ρ (.Tuple es x1 tp) (.Call (.Name "enumerate" p) [a] [] pos) (zb ds):=.of (JP (dS t bl.g) bl.m (ck aR eM<|hs _ _) hs) λB F H σ R k q=>h B F H σ _ k λv F' H' x r=>by cases r with|tup hf rl=>exact⟨_,rfl,⟨_,Uu.of<|x.sub _ _ hf⟩,q _ F' H' x<|M8 hf rl⟩
abbrev vB:ir:=[.type "ValueError",.type "Exception",.type "BaseException",.type "object"]
abbrev vN:String:="ValueError.__new__"
def Ey{K:ce}{mg:rG}{x:Str}(X:K.In h)(hb:mg x=some (.ref C))(q:PySem.W.excIn K C vB vN=true):OwnCls x C vB vN mg h:=by
 constructor;·exact hb
 ·unfold PySem.W.excIn at q;split at q
  ·rename_i TQ c sls lk;split at q
   ·rename_i C2 tl z0 z1 z2 z3 nid z5 zCL Zt;simp only[dM,jq,i9]at q;obtain⟨q1,qi⟩:=q;obtain⟨q1,qn⟩:=q1;obtain⟨q1,qt⟩:=q1;obtain⟨q1,qd⟩:=q1;obtain⟨qC,qN⟩:=q1;subst qC;subst qN;cases c with
    |mk f1 f2 f3 f4 f5 f6 f7 f8 f9 f10 f11=>
     have e3:f3=.ref C2::tl:=zCL;have e11:f11=false:=qd;have esl:sls=#[z0,z1,z2,z3,some<|.builtin vN,z5]:=by cases sls with|mk ls=>exact aV Array.mk Zt
     subst e3;subst e11;subst esl;exact⟨tl,f4,f1,f5,f2,f6,f7,f8,f9,f10,TQ,z0,z1,z2,z3,z5,_,X _ _ lk,.of_isNs<|PySem.W.isNs_of_in X qn,PySem.W.nsMap_none_of_in X qn qi,PySem.W.tail_of_in X qt⟩
   ·cases q
  ·cases q
def RY(h base:Heap)(e C:Addr)(fl:Value):Prop:=∃(oe:Obj)(vs:Array Value)(T:Addr)(oT:Obj)(ts:Array Value),h.get? e=some oe/\oe.cls=.ref C/\oe.data=.fields vs/\vs[1]?=some (.ref T)/\vs[2]?=some .none/\base.get? T=none/\T≠e/\h.get? T=some oT/\oT.data=.fields ts/\ts[3]?=some fl
def U6(base:Heap)(l:List Env)(e C:Addr)(fl:Value)(h:Heap):Prop:=base.StaysIn h/\base.get? e=none/\h.FunFrames base l/\RY h base e C fl
section
variable {env:Env}{outer:List Env}{Q:Unit->Shared->Prop}
def wQ{A:Around}{s:Shared}{e:Addr}(Yt:A.frames=some (env::outer))(hl:s.heap.FunFrames base (env::outer))(hf:env.frame=some L)(he:s.heap.get? e=some oe)(hd:oe.data=.fields vs)(hc:oe.cls=.ref C)(hsz:1<vs.size)(h2:vs[2]?=some .none)(hkb:base.StaysIn s.heap)(hen:base.get? e=none)(k:∀h',U6 base (env::outer) e C (rawInt L) h'->s.heap.UpToSlots h'->Q () {s with heap:=h'}):wpAny M A (do let a <-frameOf env;let pl <-entryPlaceOf L had;let b <-EntryCells.newEntry head a .none (rawInt L) .none pl;setField (.ref e) 1 b) Q E s:=by
 have ne:e∉(env::outer).filterMap (·.frame):=λhm=>by obtain⟨_,o,ho,hn⟩:=hl.mem hm;rw[he]at ho;cases ho;exact hn vs hd
 refine ag (wpAny_frameOf_fun Yt hl hf λg hs=>ag (wpAny_entryPlaceOf λpl U2=>?_));unfold EntryCells.newEntry newFields;refine ag<|dH ?_<|U2.sizeOk5 _ _ _ _ _;have g1:g.get? e=some oe:=(hs.2.1 e ne).trans he;have g2:=λob=>Heap.get?_push_of_some (h:=g) ob g1;have Te:g.objs.size≠e:=mj<|aH g1;refine ki (g2 _) hd hsz<|k _ ?_ ?_
 ·have d1:=mM hd (·.setIfInBounds 1 (Value.ref g.objs.size));have old:∀b o,b≠e->g.get? b=some o->∀ob,((g.push ob).update e (Obj.mapFields (·.setIfInBounds 1 (Value.ref g.objs.size)))).get? b=some o:=λb o hb q ob=>by rw[Heap.get?_update_other _ _<|cV hb];exact Heap.get?_push_of_some _ q
  have kb:base.StaysIn g:=λb o q=>(hs.2.1 b λhm=>by rw[(hl.mem hm).1]at q;cases q).trans<|hkb b o q;refine⟨λb o q=>old b o (λz=>by rw[z,hen]at q;cases q) (kb b o q) _,hen,hl.of_keeps λb o q hn=>?_,_,_,g.objs.size,_,_,Heap.get?_update_self _ (g2 _)<|D1 d1,(Obj.cls_mapFields ..).trans hc,d1,by simp[hsz],?_,kb.fresh,Te,(Heap.get?_update_other _ _<|cV Te).trans<|Heap.get?_push_size g rfl,rfl,?_⟩;·obtain⟨sl,q2⟩:=hs.2.2 b o q;exact⟨_,old b _ (λz=>by rw[z,he]at q;cases q;exact hn vs hd) q2 _,rfl⟩
  ·rw[Array.getElem?_setIfInBounds_ne<|by decide];exact h2
  ·first |(simp;done) |(rcases U2 with rfl |⟨_,_,_,_,_,_,_,rfl⟩<;>simp)
 ·intro b o q hn;obtain⟨sl,q2⟩:=hs.2.2 b o q;refine⟨sl,?_⟩;show((g.push _).update e _).get? b=_;rw[Heap.get?_update_other _ _ λz=>by subst z;rw[he]at q;cases q;exact hn vs hd];exact Heap.get?_push_of_some _ q2
def lx{s:Shared}{l:List Env}(f:U6 base l e C fl s.heap)(k:∀h',U6 base l e C .none h'->s.heap.UpToSlots h'->Q () {s with heap:=h'}):wpAny M A (setFlight (.ref e) none) Q E s:=by
 obtain⟨f1,f2,f3,oe,vs,T,oT,ts,a1,a2,a3,a4,a5,a6,a7,a8,a9,a10⟩:=f;have z3:3<ts.size:=(Array.getElem?_eq_some_iff.mp a10).1;have off:∀b,b≠T->(s.heap.update T (Obj.mapFields (·.setIfInBounds 3 ((none:Option Addr).elim Value.none λf=>rawInt f)))).get? b=s.heap.get? b:=λb hb=>Heap.get?_update_other _ _<|cV hb;have VP:∀b o,s.heap.get? b=some o->(∀ws,o.data≠.fields ws)->b≠T:=λb o q hn z=>by rw[z,a8]at q;cases q;exact hn ts a9
 unfold setFlight;refine ag<|fu a1 a3 a4 ?_;rw[ax (show(Value.ref T !=Value.none)=true by simp)];refine ki a8 a9 z3 (k _ ⟨λb o q=>(off b λz=>by rw[z,a6]at q;cases q).trans<|f1 b o q,f2,f3.of_keeps λb o q hn=>⟨o,(off b<|VP b o q hn).trans q,rfl⟩,oe,vs,T,_,_,(off e<|cV a7).trans a1,a2,a3,a4,a5,a6,a7,Heap.get?_update_self _ a8<|D1<|mM a9 _,mM a9 _,by simp[z3]⟩ λb o q hn=>⟨o.slots,(off b<|VP b o q hn).trans q⟩)
def Fz{A:Around}{s:Shared}{base:Heap}(Yt:A.frames=some (env::outer))(hf:env.frame=some L)(hkb:base.StaysIn h)(hl:h.FunFrames base (env::outer))(m:Heap.MadeExcOf h s.heap e (.ref C) vs)(k:∀h',U6 base (env::outer) e C (rawInt L) h'->s.heap.UpToSlots h'->Q () {s with heap:=h'}):wpAny M A (noteFrame (.ref e) env) Q E s:=by
 obtain⟨t,he,_,_⟩:=m.there;have hen:base.get? e=none:=by cases q:base.get? e with|none=>rfl|some o=>have:=hkb e o q;rw[m.new]at this;cases this
 unfold noteFrame;simp only[hf];refine ag<|fu he rfl (x:=.none) rfl ?_;rw[av<|by decide];exact wQ Yt (hl.of_keeps λb o q _=>⟨o,m.keeps b o q,rfl⟩) hf he rfl rfl (by simp) rfl (λb o q=>m.keeps b o<|hkb b o q) hen k
def EC{A:Around}{s:Shared}(Yt:A.frames=some (env::outer))(hf:env.frame=some L)(f:U6 base (env::outer) e C .none s.heap)(k:∀h',U6 base (env::outer) e C (rawInt L) h'->s.heap.UpToSlots h'->Q () {s with heap:=h'}):wpAny M A (noteFrame (.ref e) env) Q E s:=by
 obtain⟨f1,f2,f3,oe,vs,T,oT,ts,a1,a2,a3,a4,a5,a6,a7,a8,a9,a10⟩:=f;have off:∀b,b≠T->(s.heap.update T (Obj.mapFields (·.setIfInBounds 3 Value.none))).get? b=s.heap.get? b:=λb hb=>Heap.get?_update_other _ _<|cV hb;have VP:∀b o,s.heap.get? b=some o->(∀ws,o.data≠.fields ws)->b≠T:=λb o q hn z=>by rw[z,a8]at q;cases q;exact hn ts a9
 unfold noteFrame;simp only[hf];refine ag<|fu a1 a3 a4 ?_;rw[ax (show(Value.ref T !=Value.none)=true by simp)];refine ag<|fu a8 a9 a10 ?_;rw[av (show¬((Value.none==rawInt L)=true)by simp[rawInt])];refine ag<|ki a8 a9 (Array.getElem?_eq_some_iff.mp a10).1 ?_;exact wQ Yt (f3.of_keeps λb o q hn=>⟨o,(off b<|VP b o q hn).trans q,rfl⟩) hf ((off e<|cV a7).trans a1) a3 a2 (Array.getElem?_eq_some_iff.mp a4).1 a5 (λb o q=>(off b λz=>by rw[z,a6]at q;cases q).trans<|f1 b o q) f2 λh' fl up=>k h' fl λb o q hn=>up b o ((off b<|VP b o q hn).trans q) hn
def U6.pop(f:U6 base (env::outer) e C fl h):U6 base outer e C fl h:=let⟨a,b,⟨_,_,c⟩,d⟩:=f;⟨a,b,c,d⟩
def U6.first{l:List Env}(f:U6 base l e C fl h):∃oe vs,h.get? e=some oe/\oe.cls=.ref C/\oe.data=.fields vs/\vs[2]?=some .none:=
 let⟨_,_,_,oe,vs,_,_,_,a1,a2,a3,_,a5,_⟩:=f;⟨oe,vs,a1,a2,a3,a5⟩
end
structure Py(P:Program)(w:World)(l:List Env)(H:Hp)(s:Shared)(H':Hp)(C:Addr)(e:Value)(s':Shared):Prop where
 ex:∃(ea:Addr)(B:Heap),e=.ref ea/\U6 B l ea C .none s'.heap/\U5 P w H' B/\
  (∀b o,s.heap.get? b=some o->H b=none->b∉qS l->B.get? b=some o)/\(∀b o,s.heap.get? b=some o->b∉qS l->∃o',B.get? b=some o')
 os:s'.os=s.os
 bare:AllBare s'.gens
 slot:∀b o,s.heap.get? b=some o->H b=none->b∈qS l->∃sl,s'.heap.get? b=some {o with slots:=sl}
 free:∀b o,s.heap.get? b=some o->H b=none->H' b=none
 TZ:∀b xs,H b=some (.tup xs)->H' b=some (.tup xs)
 TC:∀b o u,H b=some (.TB o u)->H' b=some (.TB o u)
 T6:∀b ps,H b=some (.WA ps)->∃more,H' b=some (.WA<|ps++more)
def za(I:Inv X pins σ H s)(hx:X.ex=[])(Vz:X.stack=X.env::X.outer)(hf:X.env.frame=some X.env.locals)(f:Py X.prog X.w X.stack H s H' C e s'):wpAny M X.A (leaving X.env e) (λ_ UO=>Py X.prog X.w X.outer X.H₀ X.s₀ H' C e UO) E s':=by
 obtain⟨⟨ea,B,rfl,fl,SA,keep,there⟩,os,bare,slot,free,TZ,TC,T6⟩:=f;rw[Vz]at fl;have Ue:∀b,b∉X.ex:=λb z=>by rw[hx]at z;cases z
 have YH:∀b o,X.s₀.heap.get? b=some o->b≠X.env.locals:=λb o q=>bw<|aW (aH q) I.ok.above;have Zi:∀b o,X.s₀.heap.get? b=some o->b∉X.fs->b∉qS X.stack:=λb o q hb z=>by
  rcases List.mem_cons.mp (I.Vj b z)with y |y;·exact YH b o q y
  ·exact hb y
 have ist:∀b,b∈X.fs->b∈qS X.stack:=λb hb=>by rw[Vz];unfold qS;rw[jS,hf];exact aM _ hb
 unfold leaving;refine ag (EC (by rw[I.ok.frames,Vz]) hf fl λh1 fl1 up1=>lx fl1 λh' fl2 up2=>?_);have fl':=fl2.pop;have up:=up1.trans up2;refine⟨⟨ea,B,rfl,fl',SA,λb o q n hb=>?_,λb o q hb=>?_⟩,os.trans I.os,bare,λb o q n hb=>?_,λb o q n=>?_,λb xs q=>TZ b xs<|I.base.TZ b xs q,λb o u q=>TC b o u<|I.base.TC b o u q,λb ps q=>?_⟩;·exact keep b o (I.base.keep b o q n hb<|Ue b) (I.base.free b o q n<|Ue b)<|Zi b o q hb
 ·obtain⟨o',e1⟩:=I.base.there b o q<|Ue b;exact there b o' e1<|Zi b o q hb
 ·obtain⟨sl,e1⟩:=I.base.slot b o q n hb<|Ue b;obtain⟨sl',e2⟩:=slot b _ e1 (I.base.free b o q n<|Ue b)<|ist b hb;obtain⟨_,o2,Ws,hd2⟩:=I.ok.UK.mem hb;have:o=o2:=by rw[q]at Ws;exact bz Ws
  subst this;obtain⟨Yc,e3⟩:=up b _ e2 hd2;exact⟨Yc,e3⟩
 ·obtain⟨o',e1⟩:=I.base.there b o q<|Ue b;exact free b o' e1<|I.base.free b o q n<|Ue b
 ·obtain⟨m1,e1⟩:=I.base.T6 b ps q;obtain⟨m2,e2⟩:=T6 b _ e1;exact⟨m1++m2,by rw[e2,Array.append_assoc]⟩
def wm{s':Shared}(I:Inv X pins σ H s)(hx:X.ex=[])(Vz:X.stack=X.env::X.outer)(hf:X.env.frame=some X.env.locals)(m:Heap.MadeExcOf s.heap s'.heap ea (.ref C) vs)(os:s'.os=s.os)(gens:s'.gens=s.gens):wpAny M X.A (leaving X.env<|.ref ea) (λ_ UO=>Py X.prog X.w X.outer X.H₀ X.s₀ H C (.ref ea) UO) E s':=by
 have Ue:∀b,b∉X.ex:=λb z=>by rw[hx]at z;cases z
 have YH:∀b o,X.s₀.heap.get? b=some o->b≠X.env.locals:=λb o q=>bw<|aW (aH q) I.ok.above;have Zi:∀b o,X.s₀.heap.get? b=some o->b∉X.fs->b∉qS X.stack:=λb o q hb z=>by
  rcases List.mem_cons.mp (I.Vj b z)with y |y;·exact YH b o q y
  ·exact hb y
 have ist:∀b,b∈X.fs->b∈qS X.stack:=λb hb=>by rw[Vz];unfold qS;rw[jS,hf];exact aM _ hb
 have fr:s.heap.FunFrames (PySem.W.hideAll s.heap<|qS X.stack) X.stack:=PySem.W.funFrames_hide I.stack λenv he b hb=>List.mem_filterMap.mpr ⟨env,he,hb⟩;have SA:U5 X.prog X.w H (PySem.W.hideAll s.heap<|qS X.stack):=λa o q=>(I.SA a o q).Vp (λb u hb z=>pW _ z λhm=>by
   have n:=I.Vf b hm;rcases hb with y |y;·rw[y,q]at n;cases n
   ·rw[y]at n;cases n) (λ_ z=>z) λ_ _ z=>z
 unfold leaving;refine ag (Fz (base:=PySem.W.hideAll s.heap<|qS X.stack) (h:=s.heap) (by rw[I.ok.frames,Vz]) hf (λb o q=>PySem.W.of_hideAll _ q) (by rw[<-Vz];exact fr) m λh1 fl1 up1=>lx fl1 λh' fl2 up2=>?_);have fl:=fl2.pop;have up:=up1.trans up2;refine⟨⟨ea,_,rfl,fl,SA,λb o q n hb=>?_,λb o q hb=>?_⟩,os.trans I.os,by show AllBare s'.gens;rw[gens];exact I.bare,λb o q n hb=>?_,λb o q n=>I.base.free b o q n<|Ue b,I.base.TZ,I.base.TC,I.base.T6⟩;·exact pW _ (I.base.keep b o q n hb<|Ue b)<|Zi b o q hb
 ·obtain⟨o',e1⟩:=I.base.there b o q<|Ue b;exact⟨o',pW _ e1<|Zi b o q hb⟩
 ·obtain⟨sl,e1⟩:=I.base.slot b o q n hb<|Ue b;obtain⟨_,o2,Ws,hd2⟩:=I.ok.UK.mem hb;have:o=o2:=by rw[q]at Ws;exact bz Ws
  subst this;obtain⟨Yc,e3⟩:=up b _ (m.keeps _ _ e1) hd2;exact⟨Yc,e3⟩
inductive Br(X:Cx)(m:Bool)(H:Hp)(s:Shared)(H':Hp)(C:Addr)(e:Value)(s':Shared):Prop where
 |ZZ:Py X.prog X.w X.stack H s H' C e s'->Br X m H s H' C e s'
 |made {ea:Addr} {vs:ir}:m=true->H'=H->e=.ref ea->Heap.MadeExcOf s.heap s'.heap ea (.ref C) vs->s'.os=s.os->s'.gens=s.gens->Br X m H s H' C e s'
def XP(X:Cx)(m:Bool)(pins:fR)(B:B0)(F:Hp)(ρ':cA)(C:Addr)(e:Value)(s':Shared):Prop:=∃(σ1:St)(H1:Hp)(s1:Shared)(F' H':Hp),Inv X pins σ1 H1 s1/\Ok X.K B F' H' σ1 ρ'/\Sj F F'/\Br X m H1 s1 H' C e s'
def XP.later(h:XP X m pins B F1 ρ' C e s')(sf:Sj F F1):XP X m pins B F ρ' C e s':=by obtain⟨σ1,H1,s1,F',H',a,b,c,d⟩:=h;exact⟨σ1,H1,s1,F',H',a,b,sf.trans c,d⟩
def YV(X:Cx)(m:Bool)(ρ:cA)(e:Expr)(C:Addr)(ρ':cA):Prop:=∀(B:B0)(F H:Hp)(σ:St),Ok X.K B F H σ ρ->∀(pins:fR)(s:Shared),Inv X pins σ H s->dR X (eval e X.env) (λ_ _=>False) (XP X m pins B F ρ' C) s
def Vw(X:Cx)(m:Bool)(ρ:cA)(st:Stmt)(C:Addr)(ρ':cA):Prop:=∀(B:B0)(F H:Hp)(σ:St),Ok X.K B F H σ ρ->∀(pins:fR)(s:Shared),Inv X pins σ H s->dR X (exec st X.env) (λ_ _=>False) (XP X m pins B F ρ' C) s
def DW(X:Cx)(m:Bool)(ρ:cA)(st:List Stmt)(C:Addr)(ρ':cA):Prop:=∀(B:B0)(F H:Hp)(σ:St),Ok X.K B F H σ ρ->∀(pins:fR)(s:Shared),Inv X pins σ H s->dR X (execs st X.env) (λ_ _=>False) (XP X m pins B F ρ' C) s
section
variable {ds:aQ}{st:Stmt}{bJ:List Stmt}
def At.no(t:At X N sc){P:Prop}(h:X.xe v s):P:=by rw[t.U7]at h;exact h.elim
def Se.go{Q:qh}(t:At X N sc)(h:Se X ρ e d)(k:Ok X.K B F H σ ρ)(I:Inv X pins σ H s)(q:∀v u F' H' s',Ext ⟨F,H⟩ F' H'->Rep X.K F' v d->RelV v u->Inv X pins σ H' s'->Q u s'):dR X (eval e X.env) Q E s:=aL (h B F H σ (λv H'=>∃F',Ext ⟨F,H⟩ F' H'/\Rep X.K F' v d) k (λv F' H' x r=>⟨F',x,r⟩) pins s I) (λu s' ⟨v,H',I',r,F',x,rv⟩=>q v u F' H' s' x rv r I') λ_ _ z=>t.no z
def Sg.go(t:At X N sc)(h:Sg X ρ e k0)(k:Ok X.K B F H σ ρ)(I:Inv X pins σ H s){Q:Bool->Shared->Prop}(q:∀F' H' s',Ext ⟨F,H⟩ F' H'->Inv X pins σ H' s'->Q k0 s'):dR X (isTrue e X.env<|eval e X.env) Q E s:=aL (h B F H σ (λb H'=>b=k0/\∃F',Ext ⟨F,H⟩ F' H') k (λF' H' x=>⟨rfl,F',x⟩) pins s I) (λu s' ⟨H',I',e,F',x⟩=>by subst e;exact q F' H' s' x I') λ_ _ z=>t.no z
def SQ.go(t:At X N sc)(h:SQ X ρ st (.nx ρ1))(k:Ok X.K B F H σ ρ)(I:Inv X pins σ H s){Q:Flow->Shared->Prop}(q:∀F' H' σ' s',Ok X.K B F' H' σ' ρ1->Sj F F'->Inv X pins σ' H' s'->Q .next s'):dR X (exec st X.env) Q E s:=by
 refine aL (h B F H σ {nx:=λσ' H'=>∃F',Ok X.K B F' H' σ' ρ1/\Sj F F',rt:=λ_ _=>False} k (λF' H' σ' k' sf=>⟨F',k',sf⟩) pins s I) (λf s' z=>?_) λ_ _ z=>t.no z;cases f with
 |next=>obtain⟨σ',H',I',F',k',sf⟩:=z;exact q F' H' σ' s' k' sf I'
 |brk=>obtain⟨_,_,_,z⟩:=z;exact z.elim
 |cont=>obtain⟨_,_,_,z⟩:=z;exact z.elim
 |ret u=>obtain⟨_,_,_,_,_,z⟩:=z;exact z.elim
def mP(h:Vw X m ρ st C ρ'):DW X m ρ (st::bJ) C ρ':=λB F H σ k pins s I=>fh (aL (h B F H σ k pins s I) (λ_ _ z=>z.elim) λ_ _ z=>z)
def Je(t:At X N sc)(h1:SQ X ρ st (.nx ρ1))(h:DW X m ρ1 bJ C ρ'):DW X m ρ (st::bJ) C ρ':=λB F H σ k pins s I=>fh (h1.go t k I λF' H' σ' s' k' sf I'=>aL (h B F' H' σ' k' pins s' I') (λ_ _ z=>z) λ_ _ z=>z.later sf)
def By(t:At X N sc)(hc:Sg X ρ c true)(h:DW X m ρ ss C ρ'):Vw X m ρ (.If c ss us pos) C ρ':=λB F H σ k pins s I=>wpAny_If (hc.go t k I λF' H' s' x I'=>aL (h B F' H' σ (k.ext x) pins s' I') (λ_ _ z=>z) λ_ _ z=>z.later x.sf)
def Gu{pos:Pos}(h:YV X m ρ e C ρ')(hs:swapsWith e (some<|.Name x pos') pos.line X.env=pure false:=by rfl):Vw X m ρ (.Assign [.Name x pos'] e pos) C ρ':=λB F H σ k pins s I=>wpAny_Assign_Name (aL (h B F H σ k pins s I) (λ_ _ z=>z.elim) λ_ _ z=>z) hs
def CY{pos:Pos}(h:YV X m ρ e C ρ')(hs:swapsWith e none pos.line X.env=pure false:=by rfl):Vw X m ρ (.Expr e pos) C ρ':=λB F H σ k pins s I=>R3 (aL (h B F H σ k pins s I) (λ_ _ z=>z.elim) λ_ _ z=>z) I.quiet hs
def yf(P:Program)(w:World):NR:=λouter H s E e s'=>∃(C:Addr)(H':Hp),E (.ref C) none H'/\Py P w outer H s H' C e s'
def CP(K:ce)(C:Addr)(R:aQ->Prop):Sp:=λvs H _ E=>∃F ds,Sj F H/\Sh K F vs ds/\R ds/\∀F' H',Ext ⟨F,H⟩ F' H'->E (.ref C) none H'
def jB(X:Cx)(x:Str)(C:Addr)(R:aQ->Prop):Prop:=∃(f:Addr)(fd:FuncData)(ps:cH)(k:Nat),dQ X.prog X.w X.K X.mg X.base (yf X.prog X.w) k f fd ps (CP X.K C R)/\SR k X.A/\X.mg x=some (.ref f)/\PySem.W.keepIn X.K (.ref f)=true/\Binds X.K fd ps []
def qG(t:At X N sc){R:aQ->Prop}(h:jB X x C R)(ha:S3 X ρ (e::es) ds)(hR:R ds)(hg:uY sc x:=by rfl)(T7:qF x:=by rfl):YV X m ρ (.Call (.Name x p) (e::es) [] pos) C ρ:=by
 obtain⟨f,fd,ps,k,Fn,hr,hm,hk,hb⟩:=h;intro B F H σ k0 pins s I;refine jb<|nc I (dS t hg) hm ?_ T7;refine rC (h₀:=X.base) I.ok.mod.WW hk (aL (ha.2 B F H σ (λvs H1=>∃F1,Ext ⟨F,H⟩ F1 H1/\Sh X.K F1 vs ds) k0 (λvs F1 H1 x1 r1=>⟨F1,x1,r1⟩) pos pins s I) (λus s1 z=>?_) λ_ _ z=>t.no z) (ha.1.1 _ _)<|VG.any ha.1.2;obtain⟨vs,H1,I1,r,F1,x1,r1⟩:=z;refine⟨I1.UP,?_⟩;have Wj:CP X.K C R vs H1 (λ_ _=>False) (λc _ H2=>c=.ref C/\∃F2,Ext ⟨F1,H1⟩ F2 H2):=⟨F1,ds,x1.sub,r1,hR,λF2 H2 x2=>⟨rfl,F2,x2⟩⟩;have hl:us.length=ps.length:=by rw[<-r.length];exact Fn.len _ _ _ _ Wj
 refine R1 (uj (Fn.run X.A X.stack s1 H1 ⟨us,[]⟩ us vs _ _ hr I1.XH (by have:=hb s1 us I1.UP (by rw[bC];exact hl);rw[bC]at this;exact this) r Wj) λr' s' hq=>?_);cases r' with
 |error e'=>have Xy:yf X.prog X.w X.stack H1 s1 (λc _ H2=>c=Value.ref C/\∃F2,Ext ⟨F1,H1⟩ F2 H2) e' s':=hq;obtain⟨C',H2,⟨hC,F2,x2⟩,fl⟩:=Xy;cases hC;exact⟨σ,H1,s1,F2,H2,I1,k0.ext<|x1.t x2,(x1.t x2).sf,.ZZ fl⟩
 |ok fl=>
  cases fl with
  |ret u=>obtain⟨_,_,_,_,_,_,_,z⟩:=(show CE X.stack X.prog X.w H1 s1 (λ_ _=>False) u s' from hq);exact z
  |next=>exact False.elim hq|brk=>exact False.elim hq
  |cont=>exact False.elim hq
def DefX.XN{K:ce}{x:Str}{R:aQ->Prop}(h:DefX P w K mg base k N sc X)(F:dQ P w K mg base (yf P w) j f fd ps (CP K C R))(hj:j<=k)(hm:mg x=some (.ref f))(hk:PySem.W.keepIn K (.ref f)=true)(hb:Binds K fd ps []):jB X x C R:=by obtain⟨h0,rfl,rfl,rfl,rfl,rfl,hr,_⟩:=h;exact⟨f,fd,ps,j,F,hr.mono hj,hm,hk,hb⟩
def jW(t:At X N sc)(O:OwnCls x C vB vN X.mg X.base)(h:Se X ρ msg ms)(hg:uY sc x:=by rfl)(T7:qF x:=by rfl)(hs:Pl msg:=by intro _ _;rfl):Vw X true ρ (.Raise (some<|.Call (.Name x np) [msg] [] Sr) none pos) C ρ:=by intro B F H σ k pins s I;obtain⟨tl,Nn,nm,q,bs,hdct,sn,sub,ab,col,dd,k0,k1,k2,k3,k5,mN,hC,hN,hni,T⟩:=O.obj;have st:∀{pins σ H s},Inv X pins σ H s->X.base.StaysIn s.heap:=λI b o q=>I.bk b o q;refine wpAny_Raise_call_subT (C:=C) (nm:=nm) (q:=q) (N:=Nn) (bs:=bs) (bm:=tl) (hdct:=hdct) (sn:=sn) (sub:=sub) (ab:=ab) (col:=col) (dd:=dd) (k0:=k0) (k1:=k1) (k2:=k2) (k3:=k3) (k5:=k5) PySem.F.excBase_ValueError (mN:=mN) (T.hasType PySem.F.excBase_ValueError.hasBase) (I.ok.hd t.calm) (by rw[hs [] X.env];rfl) hni<|nc I (dS t hg) O.bound ⟨rfl,?_⟩ T7;rw[hs [] X.env];refine rE<|KZ (h.go t k I λv u F' H' s' x' r ru I'=>Calls.spliced_nil ?_);refine⟨rfl,by show 1<=sizeLine;decide,I'.bk _ _ hC,hN.keeps I'.bk,T.keeps I'.bk,λh' e' mm=>?_⟩;exact⟨σ,H',s',F',H',I',k.ext x',x'.sf,.made rfl rfl rfl mm rfl rfl⟩
end
def Su.XU(x:Su P w H h a o):∃ob,h.get? a=some ob:=by
 cases o with
 |lst xs=>obtain⟨_,_,_,_,e⟩:=x;exact⟨_,e⟩
 |tup xs=>obtain⟨_,_,_,ob,e,_⟩:=x;exact⟨_,e⟩
 |dK kvs=>obtain⟨_,_,_,_,ob,_,_,e,_⟩:=x;exact⟨_,e⟩
 |dT kvs=>obtain⟨_,_,_,_,ob,_,_,e,_⟩:=x;exact⟨_,e⟩
 |set S n=>obtain⟨ob,_,_,_,e,_⟩:=x;exact⟨_,e⟩
 |ins C dx fs=>obtain⟨_,_,_,e,_⟩:=x;exact⟨_,e⟩
 |own y=>exact x|xd fs=>obtain⟨_,⟨ob,_,_,e,_⟩,_⟩:=x;exact⟨_,e⟩
 |rng lo hi=>obtain⟨_,_,_,e⟩:=x;exact⟨_,e⟩
 |TB ob u=>obtain⟨e,_⟩:=x;exact⟨_,e⟩
 |WA ps=>exact⟨_,(show h.get? a=some _ from x)⟩|met f y=>exact⟨_,(show h.get? a=some _ from x)⟩
 |ext φ=>obtain⟨_,e,_⟩:=x;exact e
abbrev Cx.VA(X:Cx)(ea:Addr):Cx:={X with A:=X.A.mark<|some<|.ref ea,calm:=false}
def Inv.VA(I:Inv X pins σ H s)(ea:Addr):Inv (Cx.VA X ea) pins σ H s:=⟨⟨I.ok.mod,I.ok.kind,I.ok.glob,I.ok.blt,I.ok.above,I.ok.inj,I.ok.has,I.ok.YQ,(λz=>nomatch z),I.ok.frames,I.ok.UN,I.ok.Z2,I.ok.bs,I.ok.Xg,I.ok.Ue,I.ok.Ww,I.ok.UK,I.ok.X4⟩,I.os,I.bare,I.base,I.loc,I.cell,I.free,I.TV,I.pin,I.SA,I.len⟩
def Inv.Wy{X:Cx}(ok:X.Ok)(I:Inv (Cx.VA X ea) pins σ H s):Inv X pins σ H s:=⟨ok,I.os,I.bare,I.base,I.loc,I.cell,I.free,I.TV,I.pin,I.SA,I.len⟩
def At.VA(t:At X N sc)(ea:Addr):We (Cx.VA X ea) N sc:=⟨t.eN,t.eS,t.nd,t.U7,t.un,t.dp,t.tree,t.fr⟩
def EL{s':Shared}(I:Inv X pins σ H s)(os:s'.os=s.os)(bare:AllBare s'.gens)(SA:U5 X.prog X.w H' B)(keep:∀b o,s.heap.get? b=some o->H b=none->b∉qS X.stack->B.get? b=some o)(there:∀b o,s.heap.get? b=some o->b∉qS X.stack->∃o',B.get? b=some o')(slot:∀b o,s.heap.get? b=some o->H b=none->b∈qS X.stack->∃sl,s'.heap.get? b=some {o with slots:=sl})(free:∀b o,s.heap.get? b=some o->H b=none->H' b=none)(TZ:∀b xs,H b=some (.tup xs)->H' b=some (.tup xs))(TC:∀b o u,H b=some (.TB o u)->H' b=some (.TB o u))(T6:∀b ps,H b=some (.WA ps)->∃more,H' b=some (.WA<|ps++more))(fl:U6 B X.stack ea C .none h5)(up:s'.heap.UpToSlots h5):∃oe:Obj,Inv X pins σ (c6 H' ea<|.TB oe<|.ext<|oN ea C) {s' with heap:=h5}/\H' ea=none/\h5.get? ea=some oe/\oe.cls=.ref C:=by
 obtain⟨oe,vs,Zz,ZA,hod,Ws⟩:=fl.first;have YG:∀a o,H' a=some o->a≠ea:=λa o q z=>by obtain⟨ob,e⟩:=Su.XU<|SA a o q;rw[z,fl.2.1]at e;cases e
 have hn:H' ea=none:=by cases q:H' ea with|none=>rfl|some u=>exact absurd rfl<|YG ea u q
 have fne:∀b,b∈qS X.stack->b≠ea:=λb hb z=>by obtain⟨_,o,ho,hd⟩:=fl.2.2.1.mem hb;rw[z,Zz]at ho;cases ho;exact hd vs hod
 have bne:∀b o,s.heap.get? b=some o->b≠ea:=λb o q=>by
  by_cases hb:b∈qS X.stack;·exact fne b hb
  ·intro z;obtain⟨o',e⟩:=there b o q hb;rw[z,fl.2.1]at e;cases e
 refine⟨oe,I.X8 (s':={s' with heap:=h5}) (ch:=[]) os ⟨λb o q n hb _=>fl.1 b o<|keep b o q n hb,λb o q n hb _=>?_,λb o q n _=>by rw[aC<|bne b o q];exact free b o q n,λb o q _=>?_,λb xs q=>by rw[aC<|YG b _<|TZ b xs q];exact TZ b xs q,λb o u q=>by rw[aC<|YG b _<|TC b o u q];exact TC b o u q,λb ps q=>?_⟩ (λa u q=>?_) bare λb z=>absurd z<|by simp,hn,Zz,ZA⟩
 ·obtain⟨sl,e1⟩:=slot b o q n hb;obtain⟨_,o2,Ws,hd2⟩:=I.stack.mem hb;have e2:o=o2:=by rw[q]at Ws;exact bz Ws
  subst e2;obtain⟨TN,e3⟩:=up b _ e1 hd2;exact⟨TN,e3⟩
 ·by_cases hb:b∈qS X.stack
  ·obtain⟨sl,e1⟩:=slot b o q (I.Vf b hb) hb;obtain⟨_,o2,Ws,hd2⟩:=I.stack.mem hb;have e2:o=o2:=by rw[q]at Ws;exact bz Ws
   subst e2;obtain⟨TN,e3⟩:=up b _ e1 hd2;exact⟨_,e3⟩
  ·obtain⟨o',e⟩:=there b o q hb;exact⟨o',fl.1 b o' e⟩
 ·obtain⟨m1,e1⟩:=T6 b ps q;exact⟨m1,by rw[aC<|YG b _ e1];exact e1⟩
 ·by_cases ha:a=ea;·subst ha;rw[aI]at q;cases q;exact⟨Zz,⟨oe,vs,Zz,ZA,hod,Ws⟩,⟨oe,Zz⟩,λh1 h2 ⟨ob,ws,e1,e2,e3,e4⟩ k=>⟨ob,ws,k _ e1,e2,e3,e4⟩⟩
  ·rw[aC ha]at q;exact(SA a u q).Vp (λb v _ z=>fl.1 b v z) (λb z=>by rw[aC<|YG b _ z];exact z) λb xs z=>by rw[aC<|YG b _ z];exact z
def Dm{K:ce}{s:Shared}{ea:Addr}{Q:Bool->Shared->Prop}(X:K.In s.heap)(O:OwnCls y Dc vB vN mg s.heap)(he:s.heap.get? ea=some oe)(hc:oe.cls=.ref C)(hm:PySem.W.mroIn K C (.ref Dc)=some b)(q:Q b s):wpAny M A (excMatches (.ref ea)<|.ref Dc) Q E s:=by
 obtain⟨tl,Nn,nm,qn,bs,hdct,sn,sub,ab,col,dd,k0,k1,k2,k3,k5,mN,hC,hN,hni,T⟩:=O.obj;have hB:tl.contains (.type "BaseException")=true:=T.hasType (X:="BaseException") (b:=true) (by decide);have hcB:(Value.ref Dc::tl).contains (.type "BaseException")=true:=by rw[List.contains_cons,hB,Bool.or_true]
 have L:=CJ (M:=M) X hm;have f:=tc_notTuple;obtain⟨hh,gg,d,tt,os⟩:=s;unfold excMatches;repeat (first |(with_reducible refine gJ he ?_;rw[hc]) |with_reducible refine gJ hC ?_ |(with_reducible refine wpAny_isSubtype_exc hC ?_;rw[hcB]) |(with_reducible refine L.at ?_) |wp_step)
 cases b<;>(repeat wp_step)<;>exact q
def yo{i:Nat}{Q:Unit->Shared->Prop}(I:Inv X pins σ H s)(hN:X.N.Nodup)(hi:X.N[i]?=some n)(hk:X.env.kindOf n=some .local)(h:∀s',Inv X pins (σ.set i none) H s'->Q () s'):wpAny M A (do bindName X.env n .none;unbindBehindTheSuite X.env n pos) Q E s:=by
 obtain⟨m,hn,hl⟩:=id I.loc;have Yv:(X.env.scope.kind==.class||(X.env.scope.kind==.module&&X.env.locals !=X.env.globals))=false:=by rw[I.ok.kind];rfl
 refine wpAny_nameGoes_keeps hk hn Yv λh' v Ux hs=>h _ ?_;have low:∀b o,X.s₀.heap.get? b=some o->h'.get? b=s.heap.get? b:=λb o e=>hs.2 b<|bw<|aW (aH e) I.ok.above;refine⟨I.ok,I.os,I.bare,⟨λb o e nn hb hx=>(low b o e).trans<|I.base.keep b o e nn hb hx,λb o e nn hb hx=>?_,I.base.free,λb o e hx=>?_,I.base.TZ,I.base.TC,I.base.T6⟩,⟨_,Ux,λj y v' e1 e2 e3=>?_⟩,λy c e=>?_,I.free,I.TV,λp hp=>?_,λb ob e=>?_,by rw[bq];exact I.len⟩;·obtain⟨sl,e1⟩:=I.base.slot b o e nn hb hx;exact⟨sl,(low b o e).trans e1⟩
 ·obtain⟨o',e1⟩:=I.base.there b o e hx;exact⟨o',(low b o e).trans e1⟩
 ·have hj:i≠j:=λz=>by
   subst z;rw[List.getElem?_set_self']at e2;cases q:σ[i]? with
   |none=>rw[q]at e2;cases e2
   |some w=>rw[q]at e2;cases e2
  rw[List.getElem?_set_ne hj]at e2;obtain⟨u',r',q⟩:=hl j y v' e1 e2 e3;refine⟨u',r',?_⟩;rcases q with⟨k,e⟩ |⟨k,c,e,z⟩;·refine .inl ⟨k,?_⟩;have:y≠n:=λe=>hj<|wg hN (e▸hi) e1;simp[this,e]
  ·exact .inr ⟨k,c,e,z.sameBut hs<|I.XJ y c e⟩
 ·obtain⟨w',z⟩:=I.cell y c e;exact⟨w',z.sameBut hs<|I.XJ y c e⟩
 ·obtain⟨e,nn,ne,nf,d⟩:=I.pin p hp;exact⟨(hs.2 p.1 ne).trans e,nn,ne,nf,d⟩
 ·refine(I.SA b ob e).Vp (λc w' hc q=>(hs.2 c ?_).trans q) (λ_ q=>q) λ_ _ q=>q;rintro rfl;rcases hc with z |z;·rw[<-z,I.free]at e;cases e
  ·rw[I.free]at z;cases z
section
variable {hs:List ExceptHandler}{h₀:ExceptHandler}
def OF(t:At X N sc)(h:Sf X ρ body o):SQ X ρ (.Try body (h₀::hs) [] [] pos) o:=λB F H σ E k q=>.mk λpins s I=>by
 refine wpAny_Try_except (aL (h B F H σ E k q pins s I) (λf s1 z=>?_) λ_ _ z=>t.no z);cases f with
 |next=>exact sX z|brk=>exact z
 |cont=>exact z|ret u=>exact z
def SP.Wy{X:Cx}{f:Flow}(ok:X.Ok)(z:SP (Cx.VA X ea) pins E f s):SP X pins E f s:=by
 cases f with
 |next=>obtain⟨σ',H',I,q⟩:=z;exact⟨σ',H',Inv.Wy ok I,q⟩
 |brk=>obtain⟨σ',H',I,q⟩:=z;exact⟨σ',H',Inv.Wy ok I,q⟩
 |cont=>obtain⟨σ',H',I,q⟩:=z;exact⟨σ',H',Inv.Wy ok I,q⟩
 |ret u=>obtain⟨v,σ',H',I,r,q⟩:=z;exact⟨v,σ',H',Inv.Wy ok I,r,q⟩
def Out.drop(i:Nat):Out->Out|.nx ρ=>.nx (ρ.set i .un)|.rt d=>.rt d
def Js{o:Addr->Out}(t:At X N sc)(Vz:X.stack=X.env::X.outer/\X.env.frame=some X.env.locals)(i:Nat)(hb:DW X false ρ body C ρ1)(OD:OwnCls y Dc vB vN X.mg X.base)(hm:PySem.W.mroIn X.K C (.ref Dc)=some true)(h:∀ea,Sf (Cx.VA X ea) (ρ1.set i<|.val<|.VJ C ea) (b₀::Y8)<|o ea)(hi:N[i]?=some n:=by rfl)(hl:sc.names.lookup n=some .local:=by rfl)(hg:uY sc y:=by rfl)(T7:qF y:=by rfl)(ho:∀ea(B:B0)(F:Hp)(E:kP),UB X.K B F E o'->UB X.K B F E ((o ea).drop i)):SQ X ρ (.Try body (.ExceptHandler (some<|.Name y np) (some n) (b₀::Y8) hp::hs) [] [] pos) o':=λB F H σ E k q=>.mk λpins s I=>by
 refine wpAny_Try_except (aL (hb B F H σ k pins s I) (λ_ _ z=>z.elim) λe s' z=>?_);obtain⟨σ1,H1,s1,F1,H2,I1,k1,sf,th⟩:=z;cases th with
 |made z=>cases z
 |ZZ f=>
  obtain⟨⟨ea,Bh,rfl,fl,SA,keep,there⟩,os,bare,slot,free,TZ,TC,T6⟩:=f;have fl':=fl;rw[Vz.1]at fl';refine EC (by rw[I.ok.frames,Vz.1]) Vz.2 fl' λh4 ZM up4=>?_;refine lx ZM λh5 fl5 Y1=>?_;have Z1:=fl5;rw[<-Vz.1]at Z1;obtain⟨oe,I5,hn,he,hc⟩:=EL I1 os bare SA keep there slot free TZ TC T6 Z1<|up4.trans Y1;refine wpAny_handleBy_cons (codeAny_handlers_test<|nc (X:=Cx.VA X ea) (Inv.VA I5 ea) (show Gl X _ from dS t hg) OD.bound ?_ T7) (by intro z;cases z);refine Dm I5.UP (OD.keeps I5.bk) he hc hm<|codeAny_handlers_suite_as ?_;refine lx fl5 λh6 fl6 zBL=>?_;have Z0:=fl6;rw[<-Vz.1]at Z0;obtain⟨o6,I6,_⟩:=EL I1 os bare SA keep there slot free TZ TC T6 Z0<|(up4.trans Y1).trans zBL;have hkl:X.env.kindOf n=some .local:=by show X.env.scope.names.lookup n=_;rw[t.eS];exact hl
  have WC:X.env.scope.names.lookup n=some .local:=hkl;refine mw (X:=Cx.VA X ea) (v:=.ref ea) (i:=i) (Inv.VA I6 ea) t.nd (t.ix hi) (.inl WC) rfl (λs7 I7=>?_)<|.inr WC;have k7:Ok X.K B (c6 F1 ea<|.TB o6<|.ext<|oN ea C) (c6 H2 ea<|.TB o6<|.ext<|oN ea C) (σ1.set i<|some<|.ref ea) (ρ1.set i<|.val<|.VJ C ea):=(k1.grow hn).Ta i<|.VJ aI;have q2:UB X.K B (c6 F1 ea<|.TB o6<|.ext<|oN ea C) {nx:=λσ' H'=>E.nx (σ'.set i none) H',rt:=E.rt} (o ea):=by
   have q1:UB X.K B (c6 F1 ea<|.TB o6<|.ext<|oN ea C) E ((o ea).drop i):=UB.later (ho ea B F E q)<|sf.trans<|aU<|k1.sub.free hn;revert q1;cases o ea with
   |nx ρ2=>
    intro q1;intro F' H' σ' k' s';refine q1 F' H' (σ'.set i none) ⟨k'.toExt,by rw[bq,bq,k'.len],λj d e=>?_,λj xs e=>?_,λj l xs ys a e1 e2 e3 e4=>?_,k'.So.to (.refl _) (λ_ _ e1 e2 _=>⟨e1,e2⟩) (u6 λ_ z=>nomatch z)⟩ s'
    ·have ne:i≠j:=λz=>by
      subst z;rw[List.getElem?_set_self']at e;cases w:ρ2[i]? with
      |none=>rw[w]at e;cases e
      |some _=>rw[w]at e;cases e
     rw[List.getElem?_set_ne ne]at e ⊢;exact k'.vals j d e
    ·have ne:i≠j:=λz=>by
      subst z;rw[List.getElem?_set_self']at e;cases w:ρ2[i]? with
      |none=>rw[w]at e;cases e
      |some _=>rw[w]at e;cases e
     rw[List.getElem?_set_ne ne]at e ⊢;exact k'.Tj j xs e
    ·have ne:∀{j:Nat}{xs:aQ},(ρ2.set i Sl.un)[j]?=some (.own xs)->i≠j:=λ{j xs}e z=>by
      subst z;rw[List.getElem?_set_self']at e;cases w:ρ2[i]? with
      |none=>rw[w]at e;cases e
      |some _=>rw[w]at e;cases e
     have n1:=ne e1;have n2:=ne e2;rw[List.getElem?_set_ne n1]at e1 e3;rw[List.getElem?_set_ne n2]at e2 e4;exact k'.dist j l xs ys a e1 e2 e3 e4
   |rt d=>exactλq1=>q1
  refine aL (h ea B _ _ _ _ k7 q2 pins s7 I7) (λf s8 z=>?_) λ_ _ z=>t.no z;have z':=SP.Wy I.ok z;cases f with
  |next=>obtain⟨σ',H',I8,w⟩:=z';exact yo I8 t.nd (t.ix hi) hkl λs9 I9=>⟨_,H',I9,w⟩
  |brk=>obtain⟨σ',H',I8,w⟩:=z';exact w.elim
  |cont=>obtain⟨σ',H',I8,w⟩:=z';exact w.elim
  |ret u=>obtain⟨v,σ',H',I8,r,w⟩:=z';exact yo I8 t.nd (t.ix hi) hkl λs9 I9=>⟨v,_,H',I9,r,w⟩
end
def Se.soft(h:Se X ρ e (.VJ C ea)):Se X ρ e (.exc C):=λB F H σ Q k q=>h B F H σ Q k λv F' H' x r=>by cases r with|VJ hf=>exact q _ F' H' x<|.exc hf
def LR{ρ:cA}(t:We X N sc)(i:Nat)(hr:ρ[i]?=some (.val d))(hN:N[i]?=some x:=by rfl)(hv:fO sc x=true:=by rfl)(hx:cZ x=true:=by rfl):Se X ρ (.Name x pos) d:=by have Wi:=hx;unfold cZ at Wi;rw[dM,i9,i9]at Wi;refine .of (Hj (by rw[t.eN];exact hN) (by rw[t.eS];exact Gy hv) Wi.1 Wi.2) λB F H σ Q k q=>?_;obtain⟨v,h1,h2⟩:=k.vals i d hr;exact⟨v,h1,q v F H (.refl k.sub) h2⟩
def N6{pos:Pos}(t:We X N sc)(hf:∀x,X.fn x=true)(i:Nat)(h:Se X ρ e d)(hi:N[i]?=some x:=by rfl)(hx:nJ sc x=true:=by rfl)(hs:swapsWith e (some<|.Name x pos') pos.line X.env=pure false:=by rfl):SQ X ρ (.Assign [.Name x pos'] e pos) (.nx<|ρ.set i<|.val d):=.of (oz (i:=i) t.nd (by rw[t.eN];exact hi) (by rw[t.eS];exact HB hx) aR hs<|.inl<|hf x) λB F H σ E k q=>h B F H σ _ k λv F' H' x' r=>q F' H' _ ((k.ext x').Ta i r) x'.sf
structure Ry(X:Cx)(es:rH)(vs:dw)(σ:St)(H:Hp)(Q:St->Hp->Prop):Prop where
 go:∀(pins:fR)(s:Shared)(us:ir),Inv X pins σ H s->Vals vs us->dR X (assignInOrder ((assignEach es X.env).map (·.2)) us) (λ_ s'=>∃σ' H',Inv X pins σ' H' s'/\Q σ' H') X.xe s
def Ld:Pt X es (Ry X es):=λpins s _ _ _ us _ I r h=>h.go pins s us I r
def KO(X:Cx)(ρ:cA)(es:rH)(ds:aQ)(ρ':cA):Prop:=((∀env,(assignEach es env).length=ds.length)/\∀env,(assignEach es env).findIdx? (·.1)=none)/\∀(B:B0)(F H:Hp)(σ:St)(vs:dw)(Q:St->Hp->Prop),Ok X.K B F H σ ρ->Sh X.K F vs ds->(∀F' H' σ',Ok X.K B F' H' σ' ρ'->Sj F F'->Q σ' H')->Ry X es vs σ H Q
def R0(e:Expr):Prop:=∀(es:rH)(env:Env),assignEach (e::es) env=(false,assign e env)::assignEach es env
def fx:KO X ρ [] [] ρ:=⟨⟨λ_=>rfl,λ_=>rfl⟩,λB F H σ vs Q k r q=>.mk λpins s us I ru=>by cases r;exact Ew pins s σ H [] us Q I ru ⟨rfl,q F H σ k<|.refl _⟩⟩
def bN(h1:Vi X ρ e d ρ1)(h2:KO X ρ1 es ds ρ')(hs:R0 e:=by intro _ _;rfl):KO X ρ (e::es) (d::ds) ρ':=⟨⟨λenv=>by rw[hs es env,bp,bp,h2.1.1 env],λenv=>by
  rw[hs es env,List.findIdx?_cons]
  simp[h2.1.2 env]⟩,λB F H σ vs Q k r q=>.mk λpins s us I ru=>by
 cases r with
 |cons r1 r2=>
  refine v6 Fx Ld (by rw[hs es X.env];rfl) pins s σ H _ us Q I ru ⟨_,_,rfl,?_⟩
  exact h1 B F H σ _ _ k r1 λF1 H1 σ1 k1 s1=>h2.2 B F1 H1 σ1 _ _ k1 (r2.mono s1) λF2 H2 σ2 k2 s2=>q F2 H2 σ2 k2 (s1.trans s2)⟩
def gG(t:At X N sc)(h:KO X ρ es ds ρ'):Vi X ρ (.Tuple es k pos) (.tup ds) ρ':=.of (Hh (n:=ds.length) t.calm Ld (h.1.1 _)<|h.1.2 _) λB F H σ v Q k r q=>by cases r with|tup hf rl=>exact⟨_,_,rfl,Uu.of<|k.sub _ _ hf,rl.length,h.2 B F H σ _ Q k rl q⟩
structure sU(K:ce)(C:Addr):Prop where
 ga:PySem.W.findIn K (.ref C) "__getattribute__"=some (some<|.builtin "BaseException.__getattribute__")
 gt:PySem.W.findIn K (.ref C) "__getattr__"=some none
 cl:PySem.W.findIn K (.ref C) "__class__"=some (some<|.builtin "object.__class__")
 ob:PySem.W.mroIn K C (.type "object")=some true
 be:PySem.W.mroIn K C (.type "BaseException")=some true
section
variable {g:Array GenState}{d:Drawn}{os:OsState}{K:ce}
def Qm{a:Addr}{R:Result->Shared->Prop}(X:K.In h)(c:sU K C)(hx:h.get? a=some o)(hc:o.cls=.ref C)(hq:R (.ok<|.ret<|.ref C) ⟨h,g,d,t,os⟩):codeAny (model prog w) A (.call (.builtin "getset_descriptor.__get__") ⟨[.builtin "object.__class__",.ref a,.ref C],[]⟩) R ⟨h,g,d,t,os⟩:=by
 have ty:(⟨h,g,d,t,os⟩:Shared).TypeIs (.builtin "object.__class__") "getset_descriptor":=D3;have L:PySem.W.Looks (model prog w) h (isSubtype (.ref C)<|.type<|".".intercalate ("object.__class__".cutAt '.').dropLast) true:=by rw[F.owner_object_class];exact CJ X c.ob
 refine codeAny_call_builtin F.slot_gs_get.plain F.entry_gs_get<|F.slot_gs_get.check _ _ _ _ _ _ _ _ ty (F.args_gs_get _ _ _) ?_;repeat (any_goals (first |assumption |(with_reducible refine gJ hx ?_;rw[hc]) |(with_reducible refine L.at ?_) |wp_step))
 refine⟨Code.quiet_builtin _<|by decide,codeAny_builtin F.entry_object_class ?_⟩;repeat (any_goals (first |assumption |(with_reducible refine gJ hx ?_;rw[hc]) |wp_step))
def LY{a:Addr}{Q:Fin->Shared->Prop}(X:K.In h)(c:sU K C)(hx:h.get? a=some o)(hc:o.cls=.ref C)(hq:Q (.done<|.ret<|.ref C) ⟨h,g,d,t,os⟩):wpAny (model prog w) A (Builtin.«object.__getattribute__» ⟨[.ref a,.str "__class__" tk],[]⟩) Q E ⟨h,g,d,t,os⟩:=by
 have ty:(⟨h,g,d,t,os⟩:Shared).TypeIs (.builtin "object.__class__") "getset_descriptor":=D3;have f5:=D3;have f6:=F.slot_gs_get.lookup;have f7:=F.slot_gs_set.lookup;have L:=n8 (M:=model prog w) X c.cl;repeat (any_goals (first |assumption |(with_reducible refine gJ hx ?_;rw[hc]) |(with_reducible refine L.at ?_) |wp_step))
 refine Qm X c hx hc ?_;repeat (any_goals (first |assumption |wp_step))
def LZ{a:Addr}{Q:Unit->Shared->Prop}(X:K.In h)(c:sU K C)(hx:h.get? a=some o)(hc:o.cls=.ref C)(hq:Q () ⟨h,g,d,t,os⟩):wpAny M A (checkBuiltinCall "BaseException.__getattribute__" ⟨[.ref a,n],[]⟩) Q E ⟨h,g,d,t,os⟩:=by
 have e1:builtinKind "BaseException.__getattribute__"=some .slot:=by decide
 have e2:splitId "BaseException.__getattribute__"=some ("BaseException","__getattribute__"):=by decide
 have ha:=F.args_bexc_ga (.ref a) n;have L:=CJ (M:=M) X c.be;simp only[checkBuiltinCall,e1,e2];refine ag ?_;unfold isInstance;repeat (first |(with_reducible refine gJ hx ?_;rw[hc]) |(with_reducible refine L.at ?_) |wp_step)
 exact hq
def RJ{Q:qh}{a:Addr}(X:K.In h)(c:sU K C)(hx:h.get? a=some o)(hc:o.cls=.ref C)(hq:Q (.ref C) ⟨h,g,d,t,os⟩):wpAny (model prog w) A (getAttrBy (.ref a) (.str "__class__" tk) false) Q E ⟨h,g,d,t,os⟩:=by
 have f3:=F.attr_ValueError.ga.bind<|.ref a;have ne:(Value.builtin "BaseException.__getattribute__"==Value.builtin "object.__getattribute__")=false:=by decide
 have ne1:(onTheHeap (Value.ref C)&&Value.builtin "BaseException.__getattribute__"==Value.builtin "object.__getattribute__")=false:=by rw[ne];rfl
 have L1:=n8 (M:=model prog w) X c.ga;have L2:=n8 (M:=model prog w) X c.gt;repeat (any_goals (first |assumption |(with_reducible refine gJ hx ?_;rw[hc]) |(with_reducible refine L1.at ?_) |(with_reducible refine L2.at ?_) |wp_step))
 refine codeAny_call_builtin F.attr_ValueError.ga.plain F.entry_bexc_ga<|LZ X c hx hc<|LY X c hx hc ?_;repeat (any_goals (first |assumption |wp_step))
def N8{t:Nat}{a:Addr}{Q:Option Value->Shared->Prop}(X:K.In h)(c:sU K C)(hx:h.get? a=some o)(hc:o.cls=.ref C)(hq:Q (some<|.ref C) ⟨h,g,d,t+1,os⟩):wpAny (model prog w) A (getAttr? (.ref a) "__class__") Q E ⟨h,g,d,t,os⟩:=by unfold getAttr? getAttrBy?;repeat (any_goals (first |assumption |with_reducible apply RJ X c hx hc |wp_step))
end
def ED{K:ce}{v:Value}(h:PySem.W.mroIn K C v=some b):∃c0 dd cd sl,K.lookup C=some ⟨c0,dd,.cls cd,sl⟩:=by
 obtain⟨cd,e,_⟩:=Option.bind_eq_some_iff.mp h;unfold PySem.W.clsIn at e;split at e;·rename_i c0 dd cd' sl ho;exact⟨c0,dd,cd',sl,ho⟩
 ·cases e
def HG{K:ce}(c:sU K C):PySem.W.KitX K (.ref a) (.ref C) (oN a C) where
 ty:=λM h X ⟨o,vs,e1,e2,e3,e4⟩=>e2▸(PySem.W.Looks.ld e1).andThen .now
 it:=λM h X _=>by obtain⟨c0,dd,cd,sl,e⟩:=ED c.ob;intro A' Q' E' s' k q;unfold isType loadHead;exact ag<|wpAny_loadPart (k _ _<|X _ _ e)<|aA q
 ne:=λh tp dd its n sl X e=>by obtain⟨c0,X6,cd,sl',e'⟩:=ED c.ob;refine Bool.eq_false_iff.mpr λq=>?_;have z:C=tp:=Value.ref.inj<|jq.mp q;subst z;have:=(X _ _ e').symm.trans e;cases this
 ca:=λ{_ _ _ _ _ s}X ⟨o,vs,e1,e2,e3,e4⟩ q=>by obtain⟨h,g,d,t,os⟩:=s;exact N8 X c e1 e2 q
def H0{X:Cx}(sub:Sj F H)(r:Rep X.K F v (.exc C)):∃ea ob,v=.ref ea/\H ea=some (.TB ob<|.ext<|oN ea C):=by cases r with|exc h=>exact⟨_,_,rfl,sub _ _ h⟩
def HM{cu:Value}{X:Cx}(c:sU X.K C)(rc:∀u,RelV cv u->u=cu)(hk:PySem.W.kitOne X.K (.ref C) cu=some k):gS X (.builtin "isinstance") (λxs H Q=>∃v b ob,xs=[v,cv]/\v=.ref b/\H b=some (.TB ob<|.ext<|oN b C)/\Q (.bl k) H):=by intro pins s σ H xs us Q I r h;obtain⟨v,b,ob,rfl,rfl,hb,q⟩:=h;obtain⟨u,w,rfl,ru,U1⟩:=yn r;have e:=rc w U1;subst e;cases(show u=Value.ref b from ru);obtain⟨_,hp,_,_⟩:=(show Su X.prog X.w H s.heap b (.TB ob<|.ext<|oN b C)from I.SA b _ hb);exact cO (HG c) I.UP hp hk (λz=>nomatch z) λtk=>⟨.bl k,H,I.tok tk,rfl,q⟩
def Kc(t:We X N sc)(h:uY sc x):Gl X x:=by show X.env.scope.names.lookup x=_;rw[t.eS];exact h
def LU{y:Str}(t:We X N sc)(bl:mf X sc x (.builtin "isinstance"))(c:sU X.K C)(hy:X.mg y=some (.ref Dc))(ha:Se X ρ a (.exc C))(hk:PySem.W.kitOne X.K (.ref C) (.ref Dc)=some k)(hg:uY sc y:=by rfl)(hd:qF y:=by rfl)(hpa:Pl a:=by intro _ _;rfl):Se X ρ (.Call (.Name x p) [a,.Name y py] [] pos) (.bl k):=.of (iM (HM c (cv:=.ref Dc) (λu h=>h) hk) (Kc t bl.g) bl.m bl.v (ck aR (ck (va (v:=.ref Dc) (Kc t hg) hy rfl hd) eM)<|hpa _ _) bl.n bl.d (hpa _ _) rfl) λB F H σ Q k' q=>ha B F H σ _ k' λv F' H' x' r=>by obtain⟨ea,ob,rfl,hb⟩:=H0 x'.sub r;exact⟨_,ea,ob,rfl,rfl,hb,q _ F' H' x'<|.bl k⟩
def LV(t:We X N sc)(bl:mf X sc x (.builtin "isinstance"))(c:sU X.K C)(bt:mf X sc y (.type T))(ha:Se X ρ a (.exc C))(hk:PySem.W.kitOne X.K (.ref C) (.type T)=some k)(hpa:Pl a:=by intro _ _;rfl):Se X ρ (.Call (.Name x p) [a,.Name y py] [] pos) (.bl k):=.of (iM (HM c (cv:=.ty T) (λu h=>h) hk) (Kc t bl.g) bl.m bl.v (ck aR (ck (Ao (v:=.ty T) (Kc t bt.g) bt.m bt.v rfl bt.n bt.d) eM)<|hpa _ _) bl.n bl.d (hpa _ _) rfl) λB F H σ Q k' q=>ha B F H σ _ k' λv F' H' x' r=>by obtain⟨ea,ob,rfl,hb⟩:=H0 x'.sub r;exact⟨_,ea,ob,rfl,rfl,hb,q _ F' H' x'<|.bl k⟩
def lC{y:Str}(t:At X N sc)(bl:mf X sc x (.builtin "isinstance"))(c:sU X.K C)(hy:X.mg y=some (.ref Dc))(ha:Se X ρ a (.exc C))(hk:PySem.W.kitOne X.K (.ref C) (.ref Dc)=some k)(hg:uY sc y:=by rfl)(hd:qF y:=by rfl)(hpa:Pl a:=by intro _ _;rfl):Se X ρ (.Call (.Name x p) [a,.Name y py] [] pos) (.bl k):=LU t.z bl c hy ha hk hg hd hpa
def Kp(t:At X N sc)(bl:mf X sc x (.builtin "isinstance"))(c:sU X.K C)(bt:mf X sc y (.type T))(ha:Se X ρ a (.exc C))(hk:PySem.W.kitOne X.K (.ref C) (.type T)=some k)(hpa:Pl a:=by intro _ _;rfl):Se X ρ (.Call (.Name x p) [a,.Name y py] [] pos) (.bl k):=LV t.z bl c bt ha hk hpa
def EJ:D->Bool|.Sy=>true|_=>false
def En{K:ce}(r:Rep K F v d):decide (v=.Sy)=EJ d:=by cases r<;>rfl
def iS(ha:Se X ρ a d):Sg X ρ (.Compare a [.Is] [.Constant .none j p'] pos) (EJ d):=qY MH ha gh (dF _ (by decide)<|by decide) λF H x y Q rx ry q=>by cases ry;exact⟨rfl,by rw[En rx];exact q⟩
def vi(ha:Se X ρ a d):Sg X ρ (.Compare a [.IsNot] [.Constant .none j p'] pos) (!EJ d):=qY JS ha gh (dF _ (by decide)<|by decide) λF H x y Q rx ry q=>by cases ry;exact⟨rfl,by rw[En rx];exact q⟩
open AutoSeq1 (wpAny_loadPart')
section
variable {ds:aQ}{st:Stmt}{bJ:List Stmt}
def JR:mK X (binaryOp .Sub) (λx y H Q=>∃k j:Bool,x=.bl k/\y=.bl j/\Q (.int<|b2i k-b2i j) H):=by intro pins s σ H x y v u Q I rx ry h;obtain⟨k,j,rfl,rfl,q⟩:=h;cases rx;cases ry;exact sub_bool ⟨.int<|b2i k-b2i j,H,I.tok _,⟨_,rfl⟩,q⟩
def AC(ha:Se X ρ a (.bl k))(hb:Se X ρ b (.bl j)):Se X ρ (.BinOp a .Sub b pos) (.int<|b2i k-b2i j):=.of (qw JR aR aR) λB F H σ Q k' q=>two ha hb k' λx y F' H' x' rx ry=>by cases rx;cases ry;exact⟨k,j,rfl,rfl,q _ F' H' x'<|.int _⟩
end
end L2.EV
namespace HT
open PySem PyProof.Rows PySem.Spec
variable {K:ce}{ds:aQ}
end HT
namespace L2.EV
open PySem PySem.Spec PyProof.Rows
variable {K:ce}{ds:aQ}
def Gk(K:ce)(C:aQ->aQ->Prop):Sp:=λvs H Q _=>∃F ds xs,Sj F H/\Sh K F vs ds/\C ds xs/\∀p us F' H',Ext ⟨F,H⟩ F' H'->H p=none->H' p=some (.lst us)->F' p=none->Sh K F' us xs->Q (.ref p) H'
def R8(F:Hp)(p:Addr):Hp:=λa=>if a=p then none else F a
end L2.EV
namespace L2
open PySem PySem.Spec PyProof.Rows
variable {K:ce}{ds:aQ}
end L2
namespace L2.EV
open PySem PySem.Spec PyProof.Rows
variable {K:ce}{ds:aQ}
section
variable {e:DictEntry}
def DG{s:Shared}{Q:Option Value->Shared->Prop}(hit:s.heap.IsKeyIter it d i n ep)(hd:s.heap.get? d=some o)(ho:o.data=.dict es ep)(hn:es.size=n)(he:es[i]?=some e)(hQ:∀h',h'.IsKeyIter it d (i+1) n ep->Heap.SameBut it s.heap h'->Q (some e.key) {s with heap:=h'}):wpAny (model prog w) A (pyNext<|.ref it) Q E s:=by have hT:s.TypeIs (.ref it) "dict_keyiterator":=hit.typeIs;obtain⟨⟨cl,di,da,sl⟩,h1,h2,h3⟩:=id hit;replace h2:cl=_:=h2;replace h3:da=_:=h3;subst h2 h3;unfold pyNext;refine ag<|IW<|wpAny_callSpecial?_slot (name:=Str.ofString "__next__") hT js<|iw js hT Qg ?_<|PL _;show wpAny _ _ (Builtin.Dict_items.slot0 "__next__" {pos:=[Value.ref it]}>>=_) _ _ s;refine ag<|gI (a:=Value.ref it) (by rfl) ?_;show wpAny _ _ (((typeNameOfWhole (.ref it)>>=_)>>=_)>>=_) _ _ s;refine ag<|ag<|ag<|i6 hT ?_;refine aA ?_;refine ag<|wpAny_fieldsOf h1 rfl ?_;show wpAny _ _ (Builtin.Dict_items.addrOf (.ref d)>>=_) _ _ s;refine ag<|gI (a:=d) (by rfl) ?_;refine ag<|gK hd ho ?_;dsimp only;rw[av<|by rw[hn];simp];refine ag<|gI (a:=d) (by rfl) ?_;refine ag<|CS hd ho ?_;rw[av<|by simp];refine aA ?_;dsimp only;rw[av<|by lia,aO,he];dsimp only;show wpAny _ _ ((typeNameOfWhole (.ref it)>>=_)>>=_) _ _ s;refine ag<|ag<|i6 hT ?_;refine aA ?_;refine ag<|wpAny_isOneOf_keyiter hT ?_;refine ag<|ki h1 rfl (show 1<4 by decide) ?_;show wpAny _ _ _ _ _ {s with heap:=s.heap.update it (Obj.mapFields λYa=>Ya.setIfInBounds 1<|rawInt<|i+1)};have e2:=Heap.get?_update_self (Obj.mapFields λYa=>Ya.setIfInBounds 1<|rawInt<|i+1) h1 (by rfl);have hT':Shared.TypeIs {s with heap:=s.heap.update it (Obj.mapFields λYa=>Ya.setIfInBounds 1<|rawInt<|i+1)} (.ref it) "dict_keyiterator":=⟨_,e2,rfl⟩;refine ag<|gT ?_;show wpAny _ _ (Builtin.Dict_items.isOneOf (.ref it) ["dict_keyiterator","dict_reversekeyiterator"]>>=_) _ _ _;refine ag<|wpAny_isOneOf_keyiter hT' ?_;rw[ax<|by decide];refine aA ?_;refine aA ⟨_,rfl,?_⟩;refine aA ?_;refine hQ _ ⟨_,e2,rfl,rfl⟩ ⟨Heap.size_update _ _ _,λb hb=>Heap.get?_update_other _ _<|cV hb⟩
def FO{A:Around}{s:Shared}{Q:Option Value->Shared->Prop}(hh:A.handled=none)(hit:s.heap.IsKeyIter it d i n ep)(hd:s.heap.get? d=some o)(ho:o.data=.dict es ep)(hn:es.size=n)(he:es[i]?=none)(hQ:∀h',Heap.ExtBut it s.heap h'->Q none {s with heap:=h'}):wpAny (model prog w) A (pyNext<|.ref it) Q E s:=by have hT:s.TypeIs (.ref it) "dict_keyiterator":=hit.typeIs;obtain⟨⟨cl,di,da,sl⟩,h1,h2,h3⟩:=id hit;replace h2:cl=_:=h2;replace h3:da=_:=h3;subst h2 h3;unfold pyNext;refine ag<|IW<|wpAny_callSpecial?_slot (name:=Str.ofString "__next__") hT js<|iw js hT Qg ?_<|PL _;show wpAny _ _ (Builtin.Dict_items.slot0 "__next__" {pos:=[Value.ref it]}>>=_) _ _ s;refine ag<|gI (a:=Value.ref it) (by rfl) ?_;show wpAny _ _ (((typeNameOfWhole (.ref it)>>=_)>>=_)>>=_) _ _ s;refine ag<|ag<|ag<|i6 hT ?_;refine aA ?_;refine ag<|wpAny_fieldsOf h1 rfl ?_;show wpAny _ _ (Builtin.Dict_items.addrOf (.ref d)>>=_) _ _ s;refine ag<|gI (a:=d) (by rfl) ?_;refine ag<|gK hd ho ?_;dsimp only;rw[av<|by rw[hn];simp];refine ag<|gI (a:=d) (by rfl) ?_;refine ag<|CS hd ho ?_;rw[av<|by simp];refine aA ?_;dsimp only;rw[av<|by lia,aO,he];dsimp only;show wpAny _ _ ((typeNameOfWhole (.ref it)>>=_)>>=_) _ _ s;refine ag<|ag<|i6 hT ?_;refine aA ?_;refine ag<|ki h1 rfl (show 0<4 by decide) ?_;show wpAny _ _ _ _ _ {s with heap:=s.heap.update it (Obj.mapFields λYa=>Ya.setIfInBounds 0 Value.none)};refine ag ?_;simp only[newExc,newTuple];refine ag<|dH ?_ (by size_fits);refine ag (m:=firstArgMember _ _)<|gI (a:=Value.none) (by first |rfl |(simp only[firstArgMember];rfl)) ?_;refine dH ?_ (by size_fits);simp only[raiseNew];refine ag<|wpAny_handled ?_;rw[show A.in1.handled=none from hh];dsimp only;refine wpAny_throw ?_;refine ag<|Bs (T:="StopIteration") (b:=true) ⟨_,Heap.get?_push_size _ rfl,rfl⟩ R4 ?_;refine aA (hQ _ λb o hb q=>?_);exact Heap.get?_push_of_some _<|Heap.get?_push_of_some _<|by rw[Heap.get?_update_other _ _<|cV hb];exact q
def O6{Q:qh}{s:Shared}{d:Addr}(hs:(d==sysModules)=false)(hd:s.heap.get? d=some o)(hx:o.ExactDict)(ho:o.data=.dict es ep)(hQ:Q (.ref s.heap.objs.size) {s with heap:=s.heap.push {cls:=.type "dict_keyiterator",data:=.fields #[.ref d,rawInt 0,rawInt es.size,rawInt ep]}}):wpAny (model prog w) A (pyIter<|.ref d) Q E s:=by have hT:s.TypeIs (.ref d) "dict":=⟨o,hd,hx.1⟩;refine wpAny_pyIter_slot hT F.slot_dict_iter<|iw F.slot_dict_iter hT F.entry_dict_iter ?_<|F.args_dict_iter_1 _;unfold Builtin.«dict.__iter__»;show wpAny _ _ ((Builtin.Dict.notOrdered "__iter__" {pos:=[Value.ref d]}>>=_)>>=_) _ _ s;refine ag<|ag ?_;unfold Builtin.Dict.notOrdered;rw[ax<|by decide];refine ag<|wpAny_typeOf hT ?_;rw[av<|by decide];refine aA ?_;refine ag<|gI (a:=(Value.ref d,[])) (by rfl) ?_;refine aA ?_;refine ag<|gI (a:=d) (by rfl) ?_;unfold Builtin.Dict.showsAll;rw[av<|by rw[hs];decide];refine ag<|aA ?_;refine ag<|gK hd ho ?_;refine ag<|CS hd ho ?_;refine ag ?_;unfold newFields;refine dH ?_ (by size_fits);refine aA ⟨_,rfl,"dict_keyiterator",_,⟨_,Heap.get?_push_size _ rfl,rfl⟩,by rfl,hQ⟩
end
abbrev fA:=List<|bh×Int
abbrev zo:=List<|bh×Addr×Int
def du(kvs:fA)(k:bh):Option Int:=(kvs.find? λp=>decide<|p.1=k).map (·.2)
def gE(kvs:fA)(k:bh)(n:Int):fA:=if(du kvs k).isSome=true then kvs.map (λp=>if p.1=k then(p.1,n)else p)else kvs++[(k,n)]
def CM(xs:zo)(k:bh)(b:Addr)(n:Int):zo:=if(xs.find? λp=>decide<|p.1=k).isSome=true then xs.map (λp=>if p.1=k then(p.1,p.2.1,n)else p)else xs++[(k,b,n)]
abbrev kv(x:bh×Addr×Int):bh×Int:=(x.1,x.2.2)
def zx(xs:zo)(k:bh):du (xs.map kv) k=(xs.find? λp=>decide<|p.1=k).map (·.2.2):=by
 unfold du;induction xs with
 |nil=>rfl
 |cons x xs ih=>
  rw[aP,List.find?_cons,List.find?_cons];by_cases h:x.1=k;·simp[kv,h]
  ·have h':decide ((kv x).1=k)=false:=by simp[kv,h]
   have h2:decide (x.1=k)=false:=by simp[h]
   rw[h'];exact ih
def JG(xs:zo)(k:bh)(b:Addr)(n:Int):gE (xs.map kv) k n=(CM xs k b n).map kv:=by
 unfold gE CM;rw[zx,Option.isSome_map];by_cases h:(xs.find? λp=>decide<|p.1=k).isSome=true
 ·rw[ax h,ax h,cj,cj];refine CL λx _=>?_;show(if x.1=k then(x.1,n)else kv x)=kv (if x.1=k then(x.1,x.2.1,n)else x);by_cases e:x.1=k;·rw[ax e,ax e]
  ·rw[av e,av e]
 ·rw[av h,av h,aN];rfl
abbrev SO:zo->List (bh×Addr×Value)->Prop:=Paired λ(x:bh×Addr×Int)(y:bh×Addr×Value)=>y.1=x.1/\y.2.1=x.2.1/\RelV (.int x.2.2) y.2.2
def SO.at{ys:List (bh×Addr×Value)}(r:SO xs ys)(k:bh):((xs.find? λp=>decide<|p.1=k)=none->atKey ys k=none)/\∀x,(xs.find? λp=>decide<|p.1=k)=some x->∃v,atKey ys k=some (x.2.1,v)/\RelV (.int x.2.2) v:=by
 induction r with
 |nil=>exact⟨λ_=>rfl,λx h=>by cases h⟩
 |@cons p q ps qs h t ih=>
  obtain⟨h1,h2,h3⟩:=h;rw[List.find?_cons];by_cases e:p.1=k
  ·have e':decide (p.1=k)=true:=by simp[e]
   rw[e'];refine⟨λz=>(by cases z),λx z=>?_⟩;cases z;refine⟨q.2.2,?_,h3⟩;have e2:decide (q.1=k)=true:=by simp[h1,e]
   show(List.find? _<|q::qs).map _=_;rw[List.find?_cons,e2];show some q.2=some (p.2.1,q.2.2);rw[<-h2]
  ·have e':decide (p.1=k)=false:=by simp[e]
   have e2:decide (q.1=k)=false:=by simp[h1,e]
   rw[e'];have e3:atKey (q::qs) k=atKey qs k:=by show(List.find? _<|q::qs).map _=_;rw[List.find?_cons,e2];rfl
   rw[e3];exact ih
def SO.isSome{ys:List (bh×Addr×Value)}(r:SO xs ys)(k:bh):(atKey ys k).isSome=(xs.find? λp=>decide<|p.1=k).isSome:=by obtain⟨h1,h2⟩:=r.at k;cases q:(xs.find? λp=>decide<|p.1=k)with|none=>rw[h1 q];rfl|some x=>obtain⟨v,e,_⟩:=h2 x q;rw[e];rfl
def SO.snoc{p:bh×Addr×Int}{q:bh×Addr×Value}(h:q.1=p.1/\q.2.1=p.2.1/\RelV (.int p.2.2) q.2.2):∀{xs:zo}{ys:List (bh×Addr×Value)},SO xs ys->SO (xs++[p]) (ys++[q])|_,_,.nil=>.cons h .nil|_,_,.cons a t=>.cons a<|SO.snoc h t
def SO.put{ys:List (bh×Addr×Value)}(r:SO xs ys)(k:bh)(b:Addr)(ru:RelV (.int n) u):SO (CM xs k b n) (storedH ys k b u):=by
 unfold CM storedH;rw[r.isSome k];by_cases h:(xs.find? λp=>decide<|p.1=k).isSome=true
 ·rw[ax h,ax h];clear h;induction r with
  |nil=>exact .nil
  |@cons p q ps qs h t ih=>
   obtain⟨h1,h2,h3⟩:=h;rw[aP,aP];refine .cons ?_ ih;unfold putAt;by_cases e:p.1=k;·rw[ax e,ax<|h1.trans e];exact⟨h1,h2,ru⟩
   ·rw[av e,av λz=>e<|h1.symm.trans z];exact⟨h1,h2,h3⟩
 ·rw[av h,av h];exact SO.snoc ⟨rfl,rfl,ru⟩ r
def SO.len{ys:List (bh×Addr×Value)}(r:SO xs ys):xs.length=ys.length:=by induction r with|nil=>rfl|cons h t ih=>rw[bp,bp,ih]
def Ec(xs:zo)(k:bh)(b:Addr)(n:Int):(CM xs k b n).length<=xs.length+1:=by
 unfold CM;split;·rw[aj];lia
 ·rw[aq,fL];lia
def TU.put{k:bh}{b:Addr}(r:TU F kvs xs)(hb:F b=some (.tup<|k.map V.int))(n:Int):TU F (gE kvs k n) (CM xs k b n):=by
 refine⟨?_,λx hx=>?_⟩;·rw[r.1];exact JG xs k b n
 ·unfold CM at hx;split at hx
  ·obtain⟨y,hy,rfl⟩:=List.mem_map.mp hx;by_cases e:y.1=k;·rw[ax e];exact r.2 y hy
   ·rw[av e];exact r.2 y hy
  ·rcases List.mem_append.mp hx with h |h;·exact r.2 x h
   ·rw[bu]at h;subst h;exact hb
def Us(H:Hp)(a:Addr)(xs:zo):Prop:=H a=some (.ext<|ei a xs)\/∃ob,H a=some (.TB ob<|.ext<|ei a xs)
def Us.mono(s:Sj H H')(h:Us H a xs):Us H' a xs:=h.elim (λz=>.inl<|s _ _ z) λ⟨ob,z⟩=>.inr ⟨ob,s _ _ z⟩
def items_int:∀{ks:bh}{us:ir},Vals (ks.map V.int) us->ItemsAre (intKind P w) ks us
 |[],_,r=>by rw[Gi]at r;cases r;exact .nil
 |k::ks,_,r=>by rw[aP]at r;cases r with|cons h t=>obtain⟨tk,rfl⟩:=(show∃t,_=Value.int k t from h);exact .cons (by show Value.isInt k (.int k tk)=true;simp[Value.isInt])<|items_int t
def GH{k:bh}{b:Addr}(I:Inv X pins σ H s)(e:H b=some (.tup<|k.map V.int)):(tupleKind<|intKind X.prog X.w).is s.heap k b:=by obtain⟨_,its,r,o,h1,h2,n,h3⟩:=(show Su X.prog X.w H s.heap b (.tup<|k.map V.int)from I.SA b _ e);exact⟨o,its.toArray,n,h1,h2,h3,by simpa using items_int r⟩
def Us.is(I:Inv X pins σ H s)(h:Us H a xs):ei a xs s.heap:=by
 rcases h with e |⟨ob,e⟩;·exact(show Su X.prog X.w H s.heap a (.ext<|ei a xs)from I.SA a _ e).1
 ·exact(show Su X.prog X.w H s.heap a (.TB ob<|.ext<|ei a xs)from I.SA a _ e).2.1
def sJ(I:Inv X pins σ H s)(h:ei a xs s.heap)(hk:∀x∈xs,H x.2.1=some (.tup<|x.1.map V.int)):xs.length<=sizeLine/\(a==sysModules)=false/\∃ys,SO xs ys/\s.heap.DictOfH (tupleKind<|intKind X.prog X.w) a ys:=by
 obtain⟨z,hd,o,ho,hx,es,ep,ys,h1,h2,r,nd⟩:=h;refine⟨z,hd,ys,r,o,es,ep,ho,hx,h1,h2 _ _,λy hy=>?_,nd⟩;have all:∀{l:zo}{m:List (bh×Addr×Value)},SO l m->(∀x∈l,H x.2.1=some (.tup<|x.1.map V.int))->∀y∈m,(tupleKind<|intKind X.prog X.w).is s.heap y.1 y.2.1:=by
  intro l m q;induction q with
  |nil=>intro _ y hy;exact nomatch hy
  |@cons p q ps qs hq t ih=>
   intro hl y hy;rcases List.mem_cons.mp hy with e |hy;·subst e;rw[hq.1,hq.2.1];exact GH I<|hl p<|by simp
   ·exact ih (λx hx=>hl x<|by simp[hx]) y hy
 exact all r hk y hy
def AO{h:Heap}{a:Addr}{xs:zo}{ys:List (bh×Addr×Value)}(z:xs.length<=sizeLine)(hd:(a==sysModules)=false)(r:SO xs ys)(dd:h.DictOfH (tupleKind<|intKind P w) a ys):ei a xs h:=by obtain⟨o,es,ep,h1,h2,h3,h4,h5,h6⟩:=dd;exact⟨z,hd,o,h1,h2,es,ep,ys,h3,λ_ _=>h4,r,h6⟩
def wR(z:ei a xs h):Su P w H' h a (.ext<|ei a xs):=by refine⟨z,let⟨_,_,o,h1,_⟩:=z;⟨o,h1⟩,λh1 h2 y k=>?_⟩;obtain⟨q1,q2,o,h3,h4⟩:=y;exact⟨q1,q2,o,k o h3,h4⟩
def Inv.ZW{a:Addr}(I:Inv X pins σ H s)(h:H a=some (.ext<|ei a xs)):∃ob,Inv X pins σ (c6 H a<|.TB ob<|.ext<|ei a xs) s:=by have z:=Us.is I<|.inl h;obtain⟨q1,q2,ob,h1,h2⟩:=id z;refine⟨ob,?_⟩;exact I.write (x:=a) (e:=a) (t':=s.toks) (by rw[h];exact True.intro) (.inl rfl) (λb u _ q=>q) ⟨ob,h1⟩ ⟨h1,wR z⟩
section
variable {K:ce}{ρ:List Sl}
def LO(σ:St)(ρ:List Sl)(p:Addr):Prop:=∀(i:Nat)xs,ρ[i]?=some (.TQ xs)->σ[i]?≠some (some<|.ref p)
def Ok.Zj{p:Addr}(k:Ok K B F H σ ρ)(hp:H p=none):LO σ ρ p:=λi xs e q=>by obtain⟨a,vs,h1,h2,_⟩:=k.So.UC i xs e;rw[h1]at q;cases q;rw[hp]at h2;cases h2
def fW{s:Sl}(j:Nat)(t:Sl)(h:(ρ.set i s)[j]?=some t)(hn:t≠s):i≠j/\ρ[j]?=some t:=by
 by_cases e:i=j
 ·subst e;rw[List.getElem?_set_self']at h;cases z:ρ[i]? with
  |none=>rw[z]at h;cases h
  |some w=>rw[z]at h;exact absurd (bz h).symm hn
 ·rw[List.getElem?_set_ne e]at h;exact⟨e,h⟩
def Ok.Yd{p:Addr}(k:Ok K B F H σ ρ)(i:Nat)(hp:H p=some (.ext<|ei p es))(hf:F p=none)(hb:B.H p=none)(hn:LO σ ρ p)(r:TU F kvs es):Ok K B F H (σ.set i<|some<|.ref p) (ρ.set i<|.TQ kvs):=by
 refine⟨k.toExt,by rw[bq,bq,k.len],λj d q=>?_,λj xs q=>?_,λj l xs ys a q1 q2 q3 q4=>?_,λj ks q=>?_,λj l xs ys a q1 q2 q3 q4=>?_⟩;·obtain⟨n,q'⟩:=fW j _ q λz=>nomatch z;rw[List.getElem?_set_ne n];exact k.vals j d q'
 ·obtain⟨n,q'⟩:=fW j _ q λz=>nomatch z;rw[List.getElem?_set_ne n];exact k.Tj j xs q'
 ·obtain⟨n1,q1⟩:=fW j _ q1 λz=>nomatch z;obtain⟨n2,q2⟩:=fW l _ q2 λz=>nomatch z;rw[List.getElem?_set_ne n1]at q3;rw[List.getElem?_set_ne n2]at q4;exact k.dist j l xs ys a q1 q2 q3 q4
 ·by_cases h:i=j
  ·subst h;rw[List.getElem?_set_self']at q;cases z:ρ[i]? with
   |none=>rw[z]at q;cases q
   |some w=>
    rw[z]at q;cases q;have hi:i<σ.length:=by rw[k.len];exact(List.getElem?_eq_some_iff.mp z).1
    exact⟨p,es,by rw[List.getElem?_set_self hi],hp,hf,hb,r⟩
  ·rw[List.getElem?_set_ne h]at q ⊢;exact k.So.UC j ks q
 ·by_cases n1:i=j
  ·by_cases n2:i=l;·exact n1.symm.trans n2
   ·subst n1;rw[List.getElem?_set_ne n2]at q2 q4;have hi:i<σ.length:=by have:=(List.getElem?_eq_some_iff.mp q3).1;rw[bq]at this;exact this
    rw[List.getElem?_set_self hi]at q3;cases q3;exact absurd q4<|hn l ys q2
  ·by_cases n2:i=l
   ·subst n2;rw[List.getElem?_set_ne n1]at q1 q3;have hi:i<σ.length:=by have:=(List.getElem?_eq_some_iff.mp q4).1;rw[bq]at this;exact this
    rw[List.getElem?_set_self hi]at q4;cases q4;exact absurd q3<|hn j xs q1
   ·rw[List.getElem?_set_ne n1]at q1 q3;rw[List.getElem?_set_ne n2]at q2 q4;exact k.So.UG j l xs ys a q1 q2 q3 q4
def Ok.YC{i:Nat}(k:Ok K B F H σ ρ)(hi:ρ[i]?=some (.TQ kvs))(hs:σ[i]?=some (some<|.ref p))(r:TU F WV YN):Ok K B F (c6 H p<|.ext<|ei p YN) σ (ρ.set i<|.TQ WV):=by
 obtain⟨a,us,h1,h2,h3,h4,h5⟩:=k.So.UC i kvs hi;rw[h1]at hs;cases hs;have S1:i<ρ.length:=(List.getElem?_eq_some_iff.mp hi).1;refine⟨⟨λb u q=>?_,λb u q=>?_,k.sf,k.nw⟩,by rw[bq,k.len],λj d q=>?_,λj xs q=>?_,λj l xs ys a q1 q2=>?_,λj ks q=>?_,λj l xs ys a q1 q2 q3 q4=>?_⟩
 ·have ne:b≠p:=λz=>by subst z;rw[h3]at q;cases q
  rw[aC ne];exact k.sub b u q
 ·have ne:b≠p:=λz=>by subst z;rw[h4]at q;cases q
  rw[aC ne];exact k.sh b u q
 ·exact k.vals j d (fW j _ q λz=>nomatch z).2
 ·obtain⟨b,vs,g1,g2,g3⟩:=k.Tj j xs (fW j _ q λz=>nomatch z).2;have ne:b≠p:=λz=>by subst z;rw[h2]at g2;cases g2
  exact⟨b,vs,g1,by rw[aC ne];exact g2,g3⟩
 ·exact k.dist j l xs ys a (fW j _ q1 λz=>nomatch z).2 (fW l _ q2 λz=>nomatch z).2
 ·by_cases h:i=j;·subst h;rw[List.getElem?_set_self S1]at q;cases q;exact⟨p,YN,h1,aI,h3,h4,r⟩
  ·rw[List.getElem?_set_ne h]at q;obtain⟨b,Uj,g1,g2,g3,g4,g5⟩:=k.So.UC j ks q;have ne:b≠p:=λz=>by subst z;exact h<|k.So.UG i j kvs ks b hi q h1 g1
   exact⟨b,Uj,g1,by rw[aC ne];exact g2,g3,g4,g5⟩
 ·have own:∀(m:Nat)ys,(ρ.set i<|.TQ WV)[m]?=some (.TQ ys)->∃zs,ρ[m]?=some (.TQ zs):=λm ys q=>by
   by_cases h:i=m;·subst h;exact⟨kvs,hi⟩
   ·rw[List.getElem?_set_ne h]at q;exact⟨ys,q⟩
  obtain⟨y1,z1⟩:=own j xs q1;obtain⟨y2,z2⟩:=own l ys q2;exact k.So.UG j l _ _ a z1 z2 q3 q4
def Ok.VC{i:Nat}(k:Ok K B F H σ ρ)(hi:ρ[i]?=some (.TQ kvs)):∃a es,H a=some (.ext<|ei a es)/\∀ob,Sj F (c6 F a<|.TB ob<|.ext<|ei a es)/\Ok K B (c6 F a<|.TB ob<|.ext<|ei a es) (c6 H a<|.TB ob<|.ext<|ei a es) σ (ρ.set i<|.val<|.So kvs):=by
 obtain⟨a,es,h1,h2,h3,h4,h5⟩:=k.So.UC i kvs hi;have S1:i<ρ.length:=(List.getElem?_eq_some_iff.mp hi).1;refine⟨a,es,h2,λob=>?_⟩;have sf:Sj F (c6 F a<|.TB ob<|.ext<|ei a es):=aU h3;refine⟨sf,⟨λb u q=>?_,λb u q=>?_,k.sf.trans sf,λb q=>?_⟩,by rw[bq,k.len],λj d q=>?_,λj xs q=>?_,λj l xs ys a q1 q2=>?_,λj ks q=>?_,λj l xs ys a q1 q2=>?_⟩
 ·by_cases h:b=a;·subst h;rw[aI]at q ⊢;exact q
  ·rw[aC h]at q ⊢;exact k.sub b u q
 ·have ne:b≠a:=λz=>by subst z;rw[h4]at q;cases q
  rw[aC ne];exact k.sh b u q
 ·by_cases h:b=a;·subst h;exact .inr h4
  ·rw[aC h]at q;exact k.nw b q
 ·by_cases h:i=j;·subst h;rw[List.getElem?_set_self S1]at q;cases q;exact⟨_,h1,.So aI<|h5.mono sf⟩
  ·rw[List.getElem?_set_ne h]at q;obtain⟨v,g1,g2⟩:=k.vals j d q;exact⟨v,g1,g2.mono sf⟩
 ·obtain⟨b,vs,g1,g2,g3,g4,g5⟩:=k.Tj j xs (fW j _ q λz=>nomatch z).2;have ne:b≠a:=λz=>by subst z;rw[h2]at g2;cases g2
  exact⟨b,vs,g1,by rw[aC ne];exact g2,by rw[aC ne];exact g3,g4,g5.mono sf⟩
 ·exact k.dist j l xs ys a (fW j _ q1 λz=>nomatch z).2 (fW l _ q2 λz=>nomatch z).2
 ·obtain⟨n,q⟩:=fW j _ q λz=>nomatch z;obtain⟨b,Uj,g1,g2,g3,g4,g5⟩:=k.So.UC j ks q;have ne:b≠a:=λz=>by subst z;exact n<|k.So.UG i j kvs ks b hi q h1 g1
  exact⟨b,Uj,g1,by rw[aC ne];exact g2,by rw[aC ne];exact g3,g4,g5.mono sf⟩
 ·exact k.So.UG j l xs ys a (fW j _ q1 λz=>nomatch z).2 (fW l _ q2 λz=>nomatch z).2
end
def IK(X:Cx)(ρ:cA)(e:Expr)(kvs:fA):Prop:=∀(B:B0)(F H:Hp)(σ:St)(Q:VK),Ok X.K B F H σ ρ->(∀a xs F' H',Ext ⟨F,H⟩ F' H'->Us H' a xs->TU F' kvs xs->Q (.ref a) H')->wE X e σ H Q
def SW(X:Cx)(ρ:cA)(e:Expr)(kvs:fA):Prop:=∀(B:B0)(F H:Hp)(σ:St)(Q:VK),Ok X.K B F H σ ρ->(∀p xs F' H',Ext ⟨F,H⟩ F' H'->H p=none->H' p=some (.ext<|ei p xs)->F' p=none->TU F' kvs xs->Q (.ref p) H')->wE X e σ H Q
def Se.dr(h:Se X ρ e (.So kvs)):IK X ρ e kvs:=λB F H σ Q k q=>h B F H σ Q k λv F' H' x' r=>by cases r with|So hf r=>exact q _ _ F' H' x' (.inr ⟨_,x'.sub _ _ hf⟩) r
def Dy{ρ:cA}(t:At X N sc)(i:Nat)(hr:ρ[i]?=some (.TQ kvs))(hN:N[i]?=some x:=by rfl)(hv:fO sc x=true:=by rfl)(hx:cZ x=true:=by rfl):IK X ρ (.Name x pos) kvs:=λB F H σ Q k q=>.mk λpins s I=>by obtain⟨a,es,h1,h2,h3,h4,h5⟩:=k.So.UC i kvs hr;exact tG t hN hv hx pins s σ H Q I ⟨_,h1,q a es F H (.refl k.sub) (.inl h2) h5⟩
def Ext.VC{H:Hp}{q:Addr}(x:Ext ⟨F,H⟩ F' H')(h0:H q=none)(hf:F' q=none):Ext ⟨F,H⟩ (c6 F' q<|.TB ob<|.ext<|ei q xs) (c6 H' q<|.TB ob<|.ext<|ei q xs):=⟨vy x.sub,λb u z=>by
  have ne:b≠q:=λw=>by subst w;have z':H b=some u:=z;rw[h0]at z';cases z'
  rw[aC ne];exact x.sh b u z,x.sf.trans<|aU hf,λb z=>by
  by_cases h:b=q;·subst h;exact .inr h0
  ·rw[aC h]at z;exact x.nw b z⟩
def SW.SF(h:SW X ρ e kvs):Se X ρ e (.So kvs):=λB F H σ Q k q=>.mk λpins s I=>dW (h B F H σ (λv H'=>∃p xs F',v=.ref p/\Ext ⟨F,H⟩ F' H'/\H p=none/\H' p=some (.ext<|ei p xs)/\F' p=none/\TU F' kvs xs) k (λp xs F' H' x' h0 h1 h2 r=>⟨p,xs,F',rfl,x',h0,h1,h2,r⟩) pins s I) λu s1 ⟨v,H',I1,rv,p,xs,F',ev,x',h0,h1,h2,r⟩=>by subst ev;obtain⟨ob,I2⟩:=Inv.ZW I1 h1;exact⟨_,_,I2,rv,q _ _ _ (x'.VC h0 h2)<|.So aI<|r.mono<|aU h2⟩
def DA{ρ:cA}(i:Nat)(hi:ρ[i]?=some (.TQ kvs))(h:Sf X (ρ.set i<|.val<|.So kvs) T1 o):Sf X ρ T1 o:=λB F H σ E k q=>.mk λpins s I=>by obtain⟨a,es,h2,g⟩:=k.VC hi;obtain⟨ob,I2⟩:=Inv.ZW I h2;obtain⟨sf,k'⟩:=g ob;exact h B _ _ σ E k' (q.later sf) pins s I2
def Ii:SW X ρ (.Dict [] [] pos) []:=λB F H σ Q k q=>.mk λpins s I=>by have hn:=I.SA.fresh<|ar s.heap.objs.size;have hb:sysModules<s.heap.objs.size:=ml (by decide) (show mainGlobals<s.heap.objs.size from(I.mod.glob.keeps I.bk).lt);have z:ei s.heap.objs.size [] (s.heap.push {cls:=.type "dict",data:=.dict #[]}):=AO (P:=X.prog) (w:=X.w) (bR _) (br.mpr<|cV<|bw hb) .nil<|Bv s.heap;refine wpAny_Dict_empty ⟨.ref s.heap.objs.size,_,I.laid (a:=s.heap.objs.size) (o:=.ext<|ei s.heap.objs.size []) (t':=s.toks) (λ_ _ q=>Heap.get?_push_of_some _ q) (ar _)<|wR z,rfl,?_⟩;exact q _ [] F _ ⟨k.sub.trans<|aU hn,aU hn,.refl _,λ_ z=>.inl z⟩ hn aI (k.sub.free hn) ⟨rfl,λ_ z=>nomatch z⟩
def C9{pos:Pos}[Vh X](t:At X N sc)(i:Nat)(h:SW X ρ e kvs)(hi:N[i]?=some x:=by rfl)(hx:nJ sc x=true:=by rfl)(hs:swapsWith e (some<|.Name x pos') pos.line X.env=pure false:=by rfl):SQ X ρ (.Assign [.Name x pos'] e pos) (.nx<|ρ.set i<|.TQ kvs):=.of (oz (i:=i) t.nd (t.ix hi) (t.loc hx) aR hs Gn) λB F H σ E k q=>h B F H σ _ k λp vs F' H' x' h0 hp hf r=>q F' H' _ ((k.ext x').Yd i hp hf (k.sh.free h0) (by have hd:=k.Zj h0;exact hd) r) x'.sf
def AH{k:bh}(t:At X N sc)(ha:IK X ρ a kvs)(hb:Se X ρ b (.tup<|k.map D.int))(h:du kvs k=some n)(hs:sV b:=by intro _ _;rfl):Se X ρ (.Subscript a b pos) (.int n):=λB F H σ Q kk q=>.mk λpins s I=>by
 refine Subscript_ (dW (ha B F H σ (λv H1=>∃p xs F1,v=.ref p/\Ext ⟨F,H⟩ F1 H1/\Us H1 p xs/\TU F1 kvs xs) kk (λp xs F1 H1 x1 r1 r2=>⟨p,xs,F1,rfl,x1,r1,r2⟩) pins s I) λu s1 ⟨v,H1,I1,rv,p,xs,F1,ev,x1,r1,r2⟩=>?_);subst ev;cases(show u=Value.ref p from rv);refine dW (hb B F1 H1 σ (λv H2=>∃F2,Ext ⟨F1,H1⟩ F2 H2/\Rep X.K F2 v (.tup<|k.map D.int)) (kk.ext x1) (λv F2 H2 x2 r3=>⟨F2,x2,r3⟩) pins s1 I1) λiv s2 ⟨w,H2,I2,U1,F2,x2,r3⟩=>?_;cases r3 with
 |@tup bt vs ds hf rl=>
  have ev:=Sh.UR rl;subst ev;cases(show iv=Value.ref bt from U1);have hd:=Us.is I2<|r1.mono x2.sh;have r2':=r2.mono x2.sf;obtain⟨z,Yn,ys,rel,dd⟩:=sJ I2 hd λx hx=>x2.sub _ _<|r2'.2 x hx;have hv:du (xs.map kv) k=some n:=by rw[<-h,r2.1]
  rw[zx]at hv;obtain⟨x0,hx0,e0⟩:=Option.map_eq_some_iff.mp hv;obtain⟨w0,hw0,rw0⟩:=(rel.at k).2 x0 hx0;refine rF (x:=w0) dd.typeIs PySem.F.slot_dict_getitem.lookup ?_<|hs _ _;refine wpAny_getItem_heap (Q:=λr s'=>r=w0/\EP X pins σ Q r s') (KP<|by have:=t.un;lia) (GH I2<|x2.sub _ _ hf) dd hw0 ⟨rfl,.int n,H2,I2.tok _,?_,q _ F2 H2 (x1.t x2)<|.int n⟩;rw[<-e0];exact rw0
def Iq{a b:Addr}{k:bh}{h':Heap}{t':Nat}(I:Inv X pins σ H s)(h:H a=some (.ext<|ei a xs))(hk:∀x∈xs,H x.2.1=some (.tup<|x.1.map V.int))(hb:H b=some (.tup<|k.map V.int))(hz:xs.length<sizeLine)(ru:RelV (.int n) u){ys:List (bh×Addr×Value)}(rel:SO xs ys)(hs:(a==sysModules)=false)(dd:h'.DictOfH (tupleKind<|intKind X.prog X.w) a (storedH ys k b u))(sb:Heap.SameBut a s.heap h'):Inv X pins σ (c6 H a<|.ext<|ei a<|CM xs k b n) {s with heap:=h',toks:=t'}:=by have z:ei a (CM xs k b n) h':=AO (by have:=Ec xs k b n;lia) hs (rel.put k b ru) dd;exact I.write (x:=a) (e:=a) (by rw[h];exact True.intro) (.inl rfl) (λc q hc w=>(sb.2 c hc).trans w) (let⟨_,_,o,h1,_⟩:=z;⟨o,h1⟩)<|wR z
def OK:F9:=λo i v H Q=>∃a xs k b n,o=.ref a/\i=.ref b/\v=.int n/\H a=some (.ext<|ei a xs)/\(∀x∈xs,H x.2.1=some (.tup<|x.1.map V.int))/\H b=some (.tup<|k.map V.int)/\xs.length<sizeLine/\Q (c6 H a<|.ext<|ei a<|CM xs k b n)
def Mh{X:Cx}(hu:X.A.units+1<cLine):KM X OK:=by intro pins s σ H o i v ov iv u Q I ro ri rv h;obtain⟨a,xs,k,b,n,rfl,rfl,rfl,h1,h2,h3,h4,q⟩:=h;cases(show ov=Value.ref a from ro);cases(show iv=Value.ref b from ri);obtain⟨z,hs,ys,rel,dd⟩:=sJ I (Us.is I<|.inl h1) h2;refine wpAny_setItem_heap (hsz:=by rw[<-rel.len];exact z) (KP hu) (GH I h3) dd λh' X6 sb=>⟨_,Iq I h1 h2 h3 h4 rv rel hs X6 sb,q⟩
def yt(xs:zo)(is:zo):zo:=is.foldl (λacc x=>CM acc x.1 x.2.1 x.2.2) xs
def Ip{a:Addr}{X:Cx}(hu:X.A.units<cLine){Q:PUnit->Shared->Prop}:∀(is:zo)(ws:List (Value×Value))(xs:zo)(H:Hp)(s:Shared),Inv X pins σ H s->H a=some (.ext<|ei a xs)->(∀x∈xs,H x.2.1=some (.tup<|x.1.map V.int))->(∀x∈is,H x.2.1=some (.tup<|x.1.map V.int))->
  Paired (λ(x:bh×Addr×Int)(w:Value×Value)=>w.1=.ref x.2.1/\RelV (.int x.2.2) w.2) is ws->xs.length+is.length<sizeLine->(∀s',Inv X pins σ (c6 H a<|.ext<|ei a<|yt xs is) s'->Q PUnit.unit s')->
  dR X (forIn ws PUnit.unit λx _=>do
   dictSet a x.fst x.snd
   pure (ForInStep.yield PUnit.unit)) Q E s:=by
 intro is
 induction is with
 |nil=>
  intro ws xs H s I h1 h2 h3 r hz q
  cases r
  have e:c6 H a (.ext<|ei a xs)=H:=funext λb=>by
   by_cases hb:b=a
   ·subst hb;rw[aI,h1]
   ·rw[aC hb]
  have q':=q s
  rw[show yt xs []=xs from rfl,e]at q'
  exact aA<|q' I
 |cons x is ih=>
  intro ws xs H s I h1 h2 h3 r hz q
  cases r with
  |@cons _ w _ ws hw t=>
  obtain⟨k,b,n⟩:=x
  obtain⟨w1,w2⟩:=w
  obtain⟨e1,rn⟩:=hw
  cases(show w1=Value.ref b from e1)
  rw[bp]at hz
  rw[xz]
  obtain⟨z,hs,ys,rel,dd⟩:=sJ I (Us.is I<|.inl h1) h2
  have hb:H b=some (.tup<|k.map V.int):=h3 (k,b,n)<|by simp
  refine ag<|ag<|wpAny_dictSet_heap (by show X.A.units<cLine;exact hu) (GH I hb) dd (λh' X6 sb=>?_)<|by rw[<-rel.len];exact z
  refine aA ?_
  have I2:=Iq (t':=s.toks+(tupleKind<|intKind X.prog X.w).draws k) I h1 h2 hb (by lia) rn rel hs X6 sb
  have tn:∀c ks,H c=some (.tup ks)->c6 H a (.ext<|ei a<|CM xs k b n) c=some (.tup ks):=λc ks hc=>by
   rw[aC λz=>by subst z;rw[h1]at hc;cases hc];exact hc
  refine ih ws (CM xs k b n) _ _ I2 aI (λy hy=>?_) (λy hy=>tn _ _<|h3 y<|by simp[hy]) t (by have:=Ec xs k b n;lia) λs' I3=>q s' ?_
  ·unfold CM at hy
   split at hy
   ·obtain⟨y',hy',rfl⟩:=List.mem_map.mp hy
    by_cases e:y'.1=k
    ·rw[ax e];exact tn _ _<|h2 y' hy'
    ·rw[av e];exact tn _ _<|h2 y' hy'
   ·rcases List.mem_append.mp hy with h |h
    ·exact tn _ _<|h2 y h
    ·rw[bu]at h;subst h;exact tn _ _ hb
  ·rw[D6]at I3;exact I3
def AM{ρ:cA}{k:bh}(t:At X N sc)(i:Nat)(hr:ρ[i]?=some (.TQ kvs))(hb:Se X ρ b (.tup<|k.map D.int))(hz:kvs.length<sizeLine)(hN:N[i]?=some y:=by rfl)(hv:fO sc y=true:=by rfl)(hx:cZ y=true:=by rfl)(ha:∀v,assign (.Subscript (.Name y p) b pos) X.env v=(do
   let ov <-holding [v] (eval (.Name y p) X.env)
   let iv <-holding [v,ov] (eval b X.env)
   standAt pos
   holding [v,ov,iv] (setItem ov iv v)
   release [v,ov,iv] []):=by intro _;rfl):Vi X ρ (.Subscript (.Name y p) b pos) (.int n) (ρ.set i (.TQ (gE kvs k n))):=
 .of (Hi aR aR (Mh<|by have:=t.un;lia) ha) λB F H σ v Q kk r q=>by
  cases r
  refine .mk λpins s I=>?_
  obtain⟨l,es,h1,h2,h3,h4,h5⟩:=kk.So.UC i kvs hr
  refine tG t hN hv hx pins s σ H _ I ⟨_,h1,?_⟩
  refine hb B F H σ _ kk λw F' H' x' U1=>?_
  cases U1 with
  |@tup bt vs ds hf rl=>
   have ev:=Sh.UR rl
   subst ev
   have h5':=h5.mono x'.sf
   refine⟨l,es,k,bt,n,rfl,rfl,rfl,x'.sh _ _ h2,λx hx=>x'.sub _ _<|h5'.2 x hx,x'.sub _ _ hf,?_,?_⟩
   ·have e:=aV List.length h5.1
    rw[aj]at e;lia
   ·exact q F' _ _ ((kk.ext x').YC hr h1<|h5'.put hf n) x'.sf
def vf{n0:Int}{apos:Pos}{k:bh}(t:At X N sc)(ho:IK X ρ a kvs)(ha:S3 X ρ [e,f] [.tup<|k.map D.int,.int n0])(UX:attributeBase a "get" X.env (eval a X.env)=eval a X.env:=by rfl)(Vl:((backTo Sr<|starEach [e,f] X.env).all (λx=>!x.1)&&(backToKw Sr<|keywordEach [] X.env).all (λx=>x.1.isSome)&&decide (([e,f]:rH).length+([]:List Keyword).length+(if([]:List Keyword).isEmpty then 0 else 1)<30))=true:=by rfl)(S4:(apos.endLine==Sr.line)=true:=by rfl)(hs:Fe e [f] X.env:=by rfl)(V8:(backTo Sr<|starEach [f] X.env).any (·.1)=false:=by rfl):Se X ρ (.Call (.Attribute a "get" apos) [e,f] [] Sr) (.int<|(du kvs k).getD n0):=λB F H σ Q kk q=>.mk λpins s I=>by
 refine CI UX Vl S4 rfl (dW (ho B F H σ (λv H1=>∃p xs F1,v=.ref p/\Ext ⟨F,H⟩ F1 H1/\Us H1 p xs/\TU F1 kvs xs) kk (λp xs F1 H1 x1 r1 r2=>⟨p,xs,F1,rfl,x1,r1,r2⟩) pins s I) λu s1 ⟨v,H1,I1,rv,p,xs,F1,ev,x1,r1,r2⟩=>?_);subst ev;cases(show u=Value.ref p from rv);have hd:=Us.is I1 r1;obtain⟨_,_,ob,g1,g2,_⟩:=id hd;refine⟨"dict","dict.get",PySem.F.plainAttrs_dict,RF,PySem.F.type_dict_get,⟨ob,g1,g2.1⟩,λc ec=>(by cases ec;exact⟨ob,g1,g2.2.1⟩),?_⟩;have hA:=ha.2 B F1 H1 σ (λvs H2=>∃F2,Ext ⟨F1,H1⟩ F2 H2/\Sh X.K F2 vs [.tup<|k.map D.int,.int n0]) (kk.ext x1) (λvs F2 H2 x2 r3=>⟨F2,x2,r3⟩) Sr pins s1 I1;rw[hs]at hA ⊢;refine n9 (by show(false||(backTo Sr<|starEach [f] X.env).any (·.1))=false;rw[V8]<;>rfl)<|rE ?_;refine dW hA λus s2 ⟨vs,H2,I2,Ze,F2,x2,r3⟩=>?_;cases r3 with|cons ra rb=>
 cases rb with|cons rn zBS=>
 cases zBS;cases rn;cases ra with|@tup bt ks ds hf rl=>
 have ev:=Sh.UR rl;subst ev;obtain⟨u1,u2,rfl,ru1,ru2⟩:=yn Ze;cases(show u1=Value.ref bt from ru1);have r2':=r2.mono x2.sf;obtain⟨z,Yn,ys,rel,dd⟩:=sJ I2 (Us.is I2<|r1.mono x2.sh) λx hx=>x2.sub _ _<|r2'.2 x hx;refine call_meetsIn RF dd.typeIs PySem.F.entry_dict_get (PySem.F.args_dict_get_3 _ _ _) (meetsH_dict_get_default (tupleKind<|intKind X.prog X.w) p bt Yn u2) ⟨KP<|by have:=t.un;lia,k,ys,GH I2<|x2.sub _ _ hf,dd,?_⟩;refine⟨.int<|(du kvs k).getD n0,H2,I2.tok _,?_,q _ F2 H2 (x1.t x2)<|.int _⟩;rw[r2.1,zx];obtain⟨hN,hS⟩:=rel.at k;cases qq:(xs.find? λp=>decide<|p.1=k)with|none=>rw[hN qq];exact ru2|some x0=>obtain⟨w0,hw0,rw0⟩:=hS x0 qq;rw[hw0];exact rw0
def RD(l:Addr)(ob:Obj)(xs:zo):It:=⟨λi H=>H l=some (.TB ob<|.ext<|ei l xs)/\i<xs.length,λi H v H'=>H'=H/\∃x,xs[i]?=some x/\v=.ref x.2.1,λi H=>H l=some (.TB ob<|.ext<|ei l xs)/\xs.length<=i,False⟩
def Ly{es:Array DictEntry}{ys:List (bh×Addr×Value)}(h:∀(P:Program)(w:World),es.toList=ys.map (entryOfKey<|tupleKind<|intKind P w))(P:Program)(w:World)(r:SO xs ys):es.size=xs.length/\∀(i:Nat)x,xs[i]?=some x->∃e,es[i]?=some e/\e.key=.ref x.2.1:=by
 have h':=h P w;have hl:es.size=ys.length:=by rw[<-dv,h',aj]
 refine⟨by rw[hl,r.len],λi x hx=>?_⟩;have g:∀{xs:zo}{ys:List (bh×Addr×Value)},SO xs ys->∀(i:Nat)x,xs[i]?=some x->∃y,ys[i]?=some y/\y.2.1=x.2.1:=by intro xs ys r;induction r with|nil=>intro i x hx;simp at hx|@cons p q ps qs hq t ih=>intro i x hx;cases i with|zero=>simp at hx;subst hx;exact⟨q,by simp,hq.2.1⟩|succ i=>simpa using ih i x (by simpa using hx)
 obtain⟨y,hy,ey⟩:=g r i x hx;refine⟨entryOfKey (tupleKind<|intKind P w) y,?_,?_⟩;·rw[<-Array.getElem?_toList,h',List.getElem?_map,hy];rfl
 ·show Value.ref y.2.1=_;rw[ey]
def GB{P:Program}{w:World}{K:ce}(l it:Addr)(ob:Obj)(xs:zo){ys:List (bh×Addr×Value)}(h1:ob.data=.dict es ep)(h2:∀(P:Program)(w:World),es.toList=ys.map (entryOfKey<|tupleKind<|intKind P w))(r:SO xs ys):Bq P w K tg (RD l ob xs) [it] it (λi h=>h.IsKeyIter it l i es.size ep) where
 mem:=by simp
 obj:=λi h st b hb=>by
  have e:b=it:=by simpa using hb
  subst e;obtain⟨o,e,c,d⟩:=st;exact⟨o,e,λv z=>by rw[d]at z;cases z⟩
 keep:=λi h h' st k=>st.at λo e=>k it (by simp) o e
 item:=by intro X hP hw hK hc i pins s σ H E I hf st hg;subst hP hw hK;replace hc:=hc.resolve_right λz=>z.1;obtain⟨hq,hx⟩:=hg;obtain⟨f0,f1,f2,f3,f4,f5⟩:=hf it (by simp);have ho:=(show Su X.prog X.w H s.heap l (.TB ob<|.ext<|ei l xs)from I.SA l _ hq).1;obtain⟨hl,hg⟩:=Ly h2 X.prog X.w r;obtain⟨e,he,ek⟩:=hg i xs[i]<|List.getElem?_eq_getElem hx;refine DG st ho h1 rfl he λh' Vy sb=>?_;have I1:Inv X pins σ H {s with heap:=h'}:=I.turned (t':=s.toks) (λb o hb e=>(sb.2 b hb).trans e) f0 f1 f3 f4 f5;exact⟨e.key,rfl,letGo_keyiter (s':={s with heap:=h'}) Vy ⟨.ref xs[i].2.1,H,I1,ek,⟨rfl,_,List.getElem?_eq_getElem hx,rfl⟩,Vy,λb hb=>(hf b hb).1⟩⟩
 done:=by intro X hP hw hK hc i pins s σ H E I hf st hg;subst hP hw hK;replace hc:=hc.resolve_right λz=>z.1;obtain⟨hq,hx⟩:=hg;obtain⟨f0,f1,f2,f3,f4,f5⟩:=hf it (by simp);have ho:=(show Su X.prog X.w H s.heap l (.TB ob<|.ext<|ei l xs)from I.SA l _ hq).1;obtain⟨hl,hg⟩:=Ly h2 X.prog X.w r;exact FO (I.ok.hd hc) st ho h1 rfl (Array.getElem?_eq_none<|by lia) λh' eb=>⟨rfl,I.turned (t':=s.toks) (λb o hb e=>eb b o hb e) f0 f1 f3 f4 f5⟩
 self:=λ_ _ _ _ _ st h=>wpAny_pyIter_keyiter st h
def QY(tl:TE):TI:=λσ H R=>tl σ H λx H1=>∃l ob xs,x=.ref l/\H1 l=some (.TB ob<|.ext<|ei l xs)/\R (RD l ob xs) H1
def Mv(hl:PE X l tl):PI X tg l (QY tl):=by
 intro pins s σ H R I h;refine dW (hl pins s σ H _ I h) λv s1 ⟨x,H1,I1,r1,q1⟩=>?_;obtain⟨a,ob,xs,e,hq,q⟩:=q1;subst e;cases(show v=Value.ref a from r1);obtain⟨ho,hz⟩:=(show Su X.prog X.w H1 s1.heap a (.TB ob<|.ext<|ei a xs)from I1.SA a _ hq);obtain⟨_,hs,o,g1,g2,es,ep,ys,g3,g4,g5,_⟩:=hz.1;have eo:o=ob:=by rw[ho]at g1;exact(bz g1).symm
 subst eo;refine O6 hs ho g2 g3 ?_;refine⟨s1.heap.objs.size,[s1.heap.objs.size],_,_,H1,rfl,I1.kept (t':=s1.toks) λb o e=>Heap.get?_push_of_some _ e,GB a _ _ xs g3 g4 g5,⟨_,Heap.get?_push_size _ rfl,rfl,rfl⟩,λb hb=>?_,q⟩;have e:b=s1.heap.objs.size:=by simpa using hb
 subst e;exact I1.Wv (ar _)<|I1.SA.fresh<|ar _
abbrev M3(q:bh×Int):D:=.tup<|q.1.map D.int
def AL(h:Se X ρ e (.So kvs)):WK X ρ tg e (kvs.map M3):=.of (Mv aR) λB F H σ R kk q=>h B F H σ _ kk λv F' H' x' r=>by cases r with|@So l ob ks xs hf r=>refine⟨l,ob,xs,rfl,x'.sub _ _ hf,q _ F' H' x' λi F2 H2 s1 s2=>⟨λd hd=>?_,λhl=>⟨s2 _ _<|s1 _ _ hf,by rw[r.1,aj,aj]at hl;exact hl⟩⟩⟩;rw[r.1,cj,List.getElem?_map]at hd;obtain⟨x,hx,e⟩:=Option.map_eq_some_iff.mp hd;subst e;refine⟨⟨s2 _ _<|s1 _ _ hf,(List.getElem?_eq_some_iff.mp hx).1⟩,λv H3 hy=>?_⟩;obtain⟨rfl,x',Wi,rfl⟩:=hy;rw[hx]at Wi;cases Wi;exact⟨F2,.refl s2,.tup (s1 _ _<|r.2 x<|List.mem_of_getElem? hx)<|Sh.ints x.1⟩
section
variable {st:Stmt}{bJ:List Stmt}{ds:aQ}
inductive UD(X:Cx)(ρ:cA):List (Option Expr)->rH->fA->Prop where
 |nil:UD X ρ [] [] []
 |cons {a b:Expr} {as:List (Option Expr)} {bs:rH} {k:bh} {n:Int} {r:fA}:Se X ρ a (.tup<|k.map D.int)->Se X ρ b (.int n)->UD X ρ as bs r->UD X ρ (some a::as) (b::bs) ((k,n)::r)
def UD.len{bs:rH}(h:UD X ρ as bs kvs):as.all (·.isSome)=true/\as.length=bs.length/\as.length=kvs.length:=by induction h with|nil=>exact⟨rfl,rfl,rfl⟩|cons h1 h2 h3 ih=>exact⟨by rw[List.all_cons,ih.1];rfl,aV Nat.succ ih.2.1,aV Nat.succ ih.2.2⟩
def Aj(kvs more:fA):fA:=more.foldl (λacc q=>gE acc q.1 q.2) kvs
def UD.walk{bs:rH}(h:UD X ρ as bs kvs):∀{B:B0}{F H:Hp}{σ:St},Ok X.K B F H σ ρ->∀{pins:fR}{s:Shared},Inv X pins σ H s->dR X (evalPairs<|pairTrees as bs X.env pos) (λws s'=>∃F' H' xs,Inv X pins σ H' s'/\Ext ⟨F,H⟩ F' H'/\TU F' kvs xs/\Paired (λ(x:bh×Addr×Int)(w:Value×Value)=>w.1=.ref x.2.1/\RelV (.int x.2.2) w.2) xs ws) X.xe s:=by
 induction h with
 |nil=>intro B F H σ kk pins s I;exact pairTrees_nil_walk ⟨F,H,[],I,.refl kk.sub,⟨rfl,λ_ z=>nomatch z⟩,.nil⟩
 |@cons a b as bs k n r h1 h2 h3 ih=>
  intro B F H σ kk pins s I;refine pairTrees_cons_walk (dW (h1 B F H σ (λv H1=>∃F1,Ext ⟨F,H⟩ F1 H1/\Rep X.K F1 v (.tup<|k.map D.int)) kk (λv F1 H1 x1 r1=>⟨F1,x1,r1⟩) pins s I) λu s1 ⟨v,H1,I1,rv,F1,x1,r1⟩=>?_);have k1:=kk.ext x1;refine dW (h2 B F1 H1 σ (λv H2=>∃F2,Ext ⟨F1,H1⟩ F2 H2/\Rep X.K F2 v (.int n)) k1 (λv F2 H2 x2 r2=>⟨F2,x2,r2⟩) pins s1 I1) λu2 s2 ⟨v2,H2,I2,Xt,F2,x2,r2⟩=>?_;refine dW (ih (k1.ext x2) I2) λws s3 ⟨F3,H3,xs,I3,x3,r3,pr⟩=>?_;cases r2;cases r1 with|@tup bt vs ds hf rl=>
  have ev:=Sh.UR rl;subst ev;cases(show u=Value.ref bt from rv);refine⟨F3,H3,(k,bt,n)::xs,I3,(x1.t x2).t x3,⟨by rw[r3.1];rfl,λx hx=>?_⟩,.cons ⟨rfl,Xt⟩ pr⟩;rcases List.mem_cons.mp hx with e |hx;·subst e;exact x3.sf _ _<|x2.sf _ _ hf
  ·exact r3.2 x hx
def Ed:∀(is:zo)(kvs:fA)(xs:zo),TU F kvs xs->(∀x∈is,F x.2.1=some (.tup<|x.1.map V.int))->TU F (Aj kvs<|is.map kv) (yt xs is)|[],kvs,xs,r,_=>r|(k,b,n)::is,kvs,xs,r,h=>by show TU F (Aj (gE kvs k n)<|is.map kv) (yt (CM xs k b n) is);exact Ed is _ _ (r.put (h (k,b,n)<|by simp) n) λx hx=>h x<|by simp[hx]
def lE{bs:rH}(t:At X N sc)(h:UD X ρ as bs kvs)(h0:as≠[]:=by exactλz=>nomatch z)(h15:as.length<=15:=by decide):SW X ρ (.Dict as bs pos) (Aj [] kvs):=λB F H σ Q kk q=>.mk λpins s I=>by
 obtain⟨l1,l2,l3⟩:=h.len;rw[arm_eval_Dict,zip_pairTrees as bs X.env pos l1 l2];have U2:(pairTrees as bs X.env pos).length=as.length:=pairTrees_length as bs X.env pos l1 l2;rw[dictDisplay_pairs _ (λz=>h0<|bx<|by rw[<-U2,z];rfl)<|by lia];refine ag<|qE<|ag ?_;unfold subDict;refine ag<|Qe ?_;have hn:=I.SA.fresh<|ar s.heap.objs.size;have hb:sysModules<s.heap.objs.size:=ml (by decide) (show mainGlobals<s.heap.objs.size from(I.mod.glob.keeps I.bk).lt);have z:ei s.heap.objs.size [] (s.heap.push {cls:=.type "dict",data:=.dict #[]}):=AO (P:=X.prog) (w:=X.w) (bR _) (br.mpr<|cV<|bw hb) .nil<|Bv s.heap;have I1:=I.laid (a:=s.heap.objs.size) (o:=.ext<|ei s.heap.objs.size []) (h':=s.heap.push {cls:=.type "dict",data:=.dict #[]}) (t':=s.toks) (λ_ _ q=>Heap.get?_push_of_some _ q) (ar _)<|wR z;have x1:Ext ⟨F,H⟩ F (c6 H s.heap.objs.size<|.ext<|ei s.heap.objs.size []):=⟨kk.sub.trans<|aU hn,aU hn,.refl _,λ_ z=>.inl z⟩;refine ag<|gT ?_;rw[ax<|by lia];refine ag (dW (h.walk (kk.ext x1) I1) λws s2 ⟨F2,H2,is,I2,x2,r2,pr⟩=>?_);refine gT<|ag ?_;have Xc:F2 s.heap.objs.size=none:=x2.kf (kk.sub.free hn) aI;have h2:H2 s.heap.objs.size=some (.ext<|ei s.heap.objs.size []):=x2.sh _ _ aI;have hlen:is.length=kvs.length:=by rw[r2.1,aj]
 refine Ip (by have:=t.un;lia) is ws [] H2 s2 I2 h2 (λ_ z=>nomatch z) (λx hx=>x2.sub _ _<|r2.2 x hx) pr (by rw[iy,xx];lia) λs3 I3=>?_;refine aA<|aA<|aA ⟨.ref s.heap.objs.size,_,I3,rfl,?_⟩;have Xo:=x1.t x2;have R:TU F2 (Aj [] kvs) (yt [] is):=by have:=Ed is [] [] ⟨rfl,λ_ z=>nomatch z⟩ r2.2;rw[<-r2.1]at this;exact this
 refine q _ (yt [] is) F2 _ ⟨λc u w=>?_,λc u w=>?_,Xo.sf,Xo.nw⟩ hn aI Xc R
 ·have ne:c≠s.heap.objs.size:=λz=>by subst z;rw[Xc]at w;cases w
  rw[aC ne];exact Xo.sub c u w
 ·have ne:c≠s.heap.objs.size:=λz=>by subst z;have w':H s.heap.objs.size=some u:=w;rw[hn]at w';cases w'
  rw[aC ne];exact Xo.sh c u w
def SW.eq{WV:fA}(h:SW X ρ e kvs)(q:kvs=WV):SW X ρ e WV:=q▸h
def P0(K:ce)(C:aQ->fA->Prop):Sp:=λvs H Q _=>∃F ds kvs,Sj F H/\Sh K F vs ds/\C ds kvs/\∀p us F' H',Ext ⟨F,H⟩ F' H'->H p=none->H' p=some (.ext<|ei p us)->F' p=none->TU F' kvs us->Q (.ref p) H'
def TY(X:Cx)(x:Str)(C:aQ->fA->Prop):Prop:=∃(f:Addr)(fd:FuncData)(ps:cH)(k:Nat),dQ X.prog X.w X.K X.mg X.base ja k f fd ps (P0 X.K C)/\SR k X.A/\X.mg x=some (.ref f)/\PySem.W.keepIn X.K (.ref f)=true/\Binds X.K fd ps []
def uB(X:Cx)(ρ:cA)(T1:List Stmt)(kvs:fA):Prop:=∀(B:B0)(F H:Hp)(σ:St)(E:kP),Ok X.K B F H σ ρ->(∀p us F' H',Ext B F' H'->B.H p=none->H' p=some (.ext<|ei p us)->F' p=none->TU F' kvs us->E.rt (.ref p) H')->wSs X T1 E σ H
def pT(t:At X N sc){C:aQ->fA->Prop}(h:TY X x C)(ha:S3 X ρ (e::es) ds)(hC:C ds kvs)(hg:uY sc x:=by rfl)(T7:qF x:=by rfl):SW X ρ (.Call (.Name x p) (e::es) [] pos) kvs:=by obtain⟨f,fd,ps,k,F,hr,hm,hk,hb⟩:=h;have pz:ia ja X E0:=qx;intro B F' H σ Q k' q;refine .mk λpins s I=>?_;refine j8 F hr (dS t hg) hm hk hb .nil pz pZ T7 (ha.1.1 _ _) (VG.any ha.1.2) pins s σ H Q I (ha.2 B F' H σ _ k' λvs F1 H1 x1 r1=>?_);exact⟨F1,ds,kvs,x1.sub,by rw[bC];exact r1,hC,λp us F2 H2 x2 h0 hp hf r2=>q p us F2 H2 (x1.t x2) (x1.sh.free h0) hp hf r2⟩
def sG(h1:SQ X ρ st (.nx ρ'))(h2:uB X ρ' bJ kvs):uB X ρ (st::bJ) kvs:=λB F H σ E k q=>(.mk λpins s I=>gP vW dz pins s σ H E I (h1 B F H σ _ k λF1 H1 σ1 k1 s1=>h2 B F1 H1 σ1 E k1 q))
def EW{ρ:cA}(t:At X N sc)(i:Nat)(hr:ρ[i]?=some (.TQ kvs))(hN:N[i]?=some x:=by rfl)(hv:fO sc x=true:=by rfl)(hx:cZ x=true:=by rfl):uB X ρ [.Return (some<|.Name x pos') pos] kvs:=λB F H σ E k q=>by obtain⟨a,us,h1,h2,h3,h4,h5⟩:=k.So.UC i kvs hr;exact .mk λpins s I=>pL (vX<|tG t hN hv hx) pins s σ H E I ⟨_,h1,q a us F H k.toExt h4 h2 h3 h5⟩
def Nf{P:Program}(Ti:P.given.tree=none){w:World}{K:ce}{mg:rG}{base:Heap}{x qual:Str}{st:Stmt}{f:Addr}{fd:FuncData}{N ps:cH}{k:Nat}{C:aQ->fA->Prop}(F:V2 K x qual st f fd)(S:aJ N ps (ai st))(len:∀ds xs,C ds xs->ds.length=ps.length)(body:∀X,DefX P w K mg base k N (ai st) X->∀ds xs,C ds xs->uB X (ds.map Sl.val++List.replicate (N.length-ds.length) Sl.un) (aD st) xs):dQ P w K mg base ja (k+1) f fd ps (P0 K C):=by
 refine F.ok S (λvs H Q E h=>?_) λS8 A outer s H vs Q E hr h=>?_;·obtain⟨F',ds,d,sub,r,hC,q⟩:=h;rw[r.length];exact len ds d hC
 ·obtain⟨F',ds,d,sub,r,hC,q⟩:=h;refine⟨_,dz,?_⟩;have hx:DefX P w K mg base k N (ai st) (mI ja P w K mg base N qual (ai st) f S8 A outer s H E).U7:=⟨⟨rfl,rfl,rfl,S.nd,rfl,hr.units,hr.UE,Ti,⟨_,_,rfl,S.gen,S.co,rfl,rfl⟩⟩,rfl,rfl,rfl,rfl,rfl,hr,⟨λ_=>rfl⟩,rfl,rfl⟩;have hb:=body _ hx ds d hC;have hk:Ok K ⟨F',H⟩ F' H (start N vs) (ds.map Sl.val++List.replicate (N.length-ds.length) Sl.un):=by unfold start;rw[r.length];exact iN sub r _
  exact hb ⟨F',H⟩ F' H _ _ hk λp us F2 H2 x2 h0 hp hf r2=>q p us F2 H2 x2 h0 hp hf r2
def DefX.XR{K:ce}{x:Str}{C:aQ->fA->Prop}(h:DefX P w K mg base k N sc X)(F:dQ P w K mg base ja j f fd ps (P0 K C))(hj:j<=k)(hm:mg x=some (.ref f))(hk:PySem.W.keepIn K (.ref f)=true)(hb:Binds K fd ps []):TY X x C:=by obtain⟨h0,rfl,rfl,rfl,rfl,rfl,hr,_⟩:=h;exact⟨f,fd,ps,j,F,hr.mono hj,hm,hk,hb⟩
end
def Eh{pos:Pos}(t:At X N sc)(i j:Nat)(h1:Ss X ρ a us)(h2:Se X ρ b v)(hij:i≠j)(hi:N[i]?=some x:=by rfl)(hj:N[j]?=some y:=by rfl)(hx:sc.names.lookup x=some .local:=by rfl)(hy:sc.names.lookup y=some .local:=by rfl)(hw:swappedStores [.Tuple [.Name x px,.Name y py] kt pt] (.Tuple [a,b] k2 YF) (dE sc)=pure (some [x,y]):=by rfl)(hs:swapsWithSole [.Tuple [.Name x px,.Name y py] kt pt] (.Tuple [a,b] k2 YF) pos.line X.env=pure false:=by rfl)(hs1:Fe a [b] X.env:=by rfl)(Yo:Fe b [] X.env:=by rfl):SQ X ρ (.Assign [.Tuple [.Name x px,.Name y py] kt pt] (.Tuple [a,b] k2 YF) pos) (.nx<|(ρ.set i<|.own us).set j<|.val v):=.of (Mr (i:=i) (j:=j) t.calm t.nd (t.ix hi) (t.ix hj) hij (by rw[t.eS];exact hx) (by rw[t.eS];exact hy) (ck aR (ck aR eM Yo) hs1) ((z8 (show X.env.scope=(dE sc).scope from t.eS)).trans hw) hs) λB F H σ E k q=>h1 B F H σ _ k λp vs F1 H1 x1 h0 hp hf r=>h2 B F1 H1 σ _ (k.ext x1) λv2 F2 H2 x2 r2=>by have Xc:F2 p=none:=x2.kf hf hp;exact⟨.ref p,v2,rfl,q F2 H2 _ (((k.ext<|x1.t x2).V3 i (x2.sh _ _ hp) Xc (k.sh.free h0) (k.noOwn h0)<|r.mono x2.sf).Ta j r2) (x1.t x2).sf⟩
def Mn{p:PyData}(t:At X N sc){qs:List PyData}(sp:p.canLay0=true)(sd:p.depth<=62)(sq:PyData.canLayAll0 qs=true):mK X (compareOp .NotIn) (λx y H Q=>VM X H x p/\VM X H y (.list qs)/\Q (.bl (!qs.any λy=>PyData.eqv y p)) H):=by intro pins s σ H x y v u Q I rx ry h;obtain⟨h1,h2,h3⟩:=h;obtain⟨as,r1⟩:=h1 sp H (.refl _) pins σ s v I rx;obtain⟨bs,r2⟩:=h2 (by simpa[PyData.canLay0]using sq) H (.refl _) pins σ s u I ry;refine SeqAt.notIn_list_reads r2 r1 sq sp ?_ ⟨.bl _,H,I,rfl,h3⟩;have hu:=t.un;have:min (PyData.depthAll qs) p.depth<=p.depth:=IQ _ _;lia
end L2.EV
namespace HT
open PySem PySem.Spec PyProof.Rows
variable {K:ce}{ds:aQ}
end HT
namespace L2
open PySem PySem.Spec PyProof.Rows
variable {K:ce}{ds:aQ}
end L2
namespace L2.EV
open PySem PySem.Spec PyProof.Rows
variable {K:ce}{ds:aQ}
def Tv(B:B0)(p:Addr)(us:dw):B0:=⟨B.F,c6 B.H p<|.lst us⟩
def Tv.same{B:B0}{p:Addr}(h:B.H p=some (.lst us)):Tv B p us=B:=by
 have:c6 B.H p (.lst us)=B.H:=funext λb=>by
  by_cases z:b=p;·subst z;rw[aI,h]
  ·rw[aC z]
 show(⟨B.F,c6 B.H p<|.lst us⟩:B0)=B;rw[this]
def Tv.up{ws:dw}:Tv (Tv B p us) p ws=Tv B p ws:=by show(⟨B.F,c6 (c6 B.H p<|.lst us) p<|.lst ws⟩:B0)=⟨B.F,c6 B.H p<|.lst ws⟩;rw[D6]
structure Uq(K:ce)(B:B0)(p:Addr)(F:Hp)(us:dw)(xs:aQ):Prop where
 st:B.H p=some (.lst us)
 fr:B.F p=none
 rep:Sh K F us xs
def Uq.free{K:ce}(l:Uq K B p F us xs)(x:Ext B F H):F p=none:=x.kf l.fr l.st
def Um(K:ce)(B:B0)(p:Addr)(F₀:Hp)(E:kP)(xs':aQ):Out->Prop|.nx ρ=>∀F H σ us,Ok K (Tv B p us) F H σ ρ->Sh K F us xs'->Sj F₀ F->E.nx σ H|.rt d=>∀v F H us,Ext (Tv B p us) F H->Sh K F us xs'->Rep K F v d->E.rt v H
def UZ(X:Cx)(p:Addr)(ρ:cA)(T1:List Stmt)(o:Out)(xs xs':aQ):Prop:=∀(B:B0)(F H:Hp)(σ:St)(E:kP)(us:dw),Uq X.K B p F us xs->Ok X.K B F H σ ρ->Um X.K B p F E xs' o->wSs X T1 E σ H
def rk(X:Cx)(p:Addr)(ρ:cA)(st:Stmt)(o:Out)(xs xs':aQ):Prop:=∀(B:B0)(F H:Hp)(σ:St)(E:kP)(us:dw),Uq X.K B p F us xs->Ok X.K B F H σ ρ->Um X.K B p F E xs' o->wS X st E σ H
def Ok.now{K:ce}(k:Ok K B F H σ ρ):Ok K ⟨F,B.H⟩ F H σ ρ:=⟨⟨k.sub,k.sh,.refl _,λa q=>.inl q⟩,k.len,k.vals,k.Tj,k.dist,⟨k.So.UC,k.So.UG⟩⟩
def Ext.XZ(x:Ext B F H)(y:Ext ⟨F,B.H⟩ F' H'):Ext B F' H':=⟨y.sub,y.sh,x.sf.trans y.sf,λa q=>by
  rcases y.nw a q with z |z;·exact x.nw a z
  ·exact .inr z⟩
section
variable {st:Stmt}{bJ:List Stmt}
def yz{X:Cx}(l:Uq X.K B p F us xs)(k:Ok X.K B F H σ ρ)(q:Um X.K B p F E xs o):(∃ρ',o=.nx ρ'/\UB X.K B F E o)\/(∃d,o=.rt d/\UB X.K ⟨F,B.H⟩ F E o):=by cases o with|nx ρ'=>exact .inl ⟨ρ',rfl,λF' H' σ' k' s'=>q F' H' σ' us (by rw[Tv.same l.st];exact k') (l.rep.mono s') s'⟩|rt d=>exact .inr ⟨d,rfl,λv F' H' x r=>q v F' H' us (by rw[Tv.same l.st];exact k.toExt.XZ x) (l.rep.mono x.sf) r⟩
def Sf.m(h:Sf X ρ T1 o):UZ X p ρ T1 o xs xs:=λB F H σ E us l k q=>by
 rcases yz l k q with⟨_,_,z⟩ |⟨_,_,z⟩;·exact h B F H σ E k z
 ·exact h ⟨F,B.H⟩ F H σ E k.now z
def SQ.m(h:SQ X ρ st o):rk X p ρ st o xs xs:=λB F H σ E us l k q=>by
 rcases yz l k q with⟨_,_,z⟩ |⟨_,_,z⟩;·exact h B F H σ E k z
 ·exact h ⟨F,B.H⟩ F H σ E k.now z
def JL{X:Cx}(q:Um X.K B p F E xs' o)(s:Sj F F1):Um X.K (Tv B p us) p F1 E xs' o:=by
 cases o with
 |nx ρ'=>exactλF' H' σ' ws k r s'=>q F' H' σ' ws (by rw[Tv.up]at k;exact k) r<|s.trans s'
 |rt d=>exactλv F' H' ws x r rv=>q v F' H' ws (by rw[Tv.up]at x;exact x) r rv
def ef(h1:rk X p ρ st (.nx ρ1) xs UH)(h2:UZ X p ρ1 bJ o UH xs'):UZ X p ρ (st::bJ) o xs xs':=λB F H σ E us l k q=>(.mk λpins s I=>gP vW dz pins s σ H E I (h1 B F H σ _ us l k λF1 H1 σ1 ws k1 r1 s1=>h2 (Tv B p ws) F1 H1 σ1 E ws ⟨aI,l.fr,r1⟩ k1<|JL q s1))
def gx(h1:rk X p ρ st o xs xs'):UZ X p ρ [st] o xs xs':=λB F H σ E us l k q=>(.mk λpins s I=>pL vW pins s σ H E I<|h1 B F H σ E us l k q)
def B2:UZ X p ρ [] (.nx ρ) xs xs:=Sf.m bQ
def Ok.X7{K:ce}(k:Ok K B F H σ ρ)(l:Uq K B p F us xs):Ok K (Tv B p ws) F (c6 H p<|.lst ws) σ ρ:=by
 have hf:=l.free k.toExt;have ho:∀a,B.H a=none->a≠p:=λa h z=>by subst z;rw[l.st]at h;cases h
 refine⟨⟨λc u q=>?_,λc u q=>?_,k.sf,λa q=>?_⟩,k.len,k.vals,λi ys h=>?_,k.dist,⟨λi kvs h=>?_,k.So.UG⟩⟩
 ·have ne:c≠p:=λz=>by subst z;rw[hf]at q;cases q
  rw[aC ne];exact k.sub c u q
 ·by_cases z:c=p;·subst z;have q':c6 B.H c (.lst ws) c=some u:=q;rw[aI]at q' ⊢;exact q'
  ·have q':c6 B.H p (.lst ws) c=some u:=q;rw[aC z]at q' ⊢;exact k.sh c u q'
 ·have ne:a≠p:=λz=>by subst z;exact q hf
  rcases k.nw a q with z |z;·exact .inl z
  ·refine .inr ?_;show c6 B.H p (.lst ws) a=none;rw[aC ne];exact z
 ·obtain⟨a,vs,h1,h2,h3,h4,h5⟩:=k.Tj i ys h;have ne:=ho a h4;exact⟨a,vs,h1,by rw[aC ne];exact h2,h3,by show c6 B.H p (.lst ws) a=none;rw[aC ne];exact h4,h5⟩
 ·obtain⟨a,es,h1,h2,h3,h4,h5⟩:=k.So.UC i kvs h;have ne:=ho a h4;exact⟨a,es,h1,by rw[aC ne];exact h2,h3,by show c6 B.H p (.lst ws) a=none;rw[aC ne];exact h4,h5⟩
def IC{i:Nat}{Q:VK}{ρ:cA}(t:At X N sc)(hr:ρ[i]?=some (.val<|.adr p))(hN:N[i]?=some x)(hv:fO sc x=true)(hx:cZ x=true)(k:Ok X.K B F H σ ρ)(h:Q (.ref p) H):wE X (.Name x py) σ H Q:=.mk λpins s I=>by obtain⟨v,h1,h2⟩:=k.vals i _ hr;cases h2;exact tG t hN hv hx pins s σ H Q I ⟨_,h1,h⟩
end
def Uq.ext{K:ce}{H:Hp}(l:Uq K B p F us xs)(x:Ext ⟨F,H⟩ F' H'):Uq K B p F' us xs:=⟨l.st,l.fr,l.rep.mono x.sf⟩
section
variable {bJ:List Stmt}{ds:aQ}
inductive Uo(X:Cx)(p:Addr)(tg:Expr)(body:List Stmt):aQ->cA->aQ->cA->aQ->Prop where
 |nil {ρ:cA} {xs:aQ}:Uo X p tg body [] ρ xs ρ xs
 |cons {d:D} {ds:aQ} {ρ ρ1 ρ2 ρ3:cA} {xs UH xs2:aQ}:Vi X ρ tg d ρ1->UZ X p ρ1 body (.nx ρ2) xs UH->Uo X p tg body ds ρ2 UH ρ3 xs2->Uo X p tg body (d::ds) ρ xs ρ3 xs2
def Uo.Xq(R:Nat->cA)(L:Nat->aQ):∀(ds:aQ)(i:Nat),(∀(j:Nat)d,ds[j]?=some d->∃ρ1,Vi X (R<|i+j) tg d ρ1/\UZ X p ρ1 body (.nx<|R<|i+j+1) (L<|i+j) (L<|i+j+1))->Uo X p tg body ds (R i) (L i) (R<|i+ds.length) (L<|i+ds.length)
 |[],i,_=>.nil
 |d::ds,i,h=>by
  obtain⟨ρ1,h1,h2⟩:=h 0 d rfl;have:=Uo.Xq R L ds (i+1) λj d' e=>by have:=h (j+1) d' (by simpa using e);rw[show i+1+j=i+(j+1)by lia];exact this
  rw[show i+1+ds.length=i+(d::ds).length by rw[bp];lia]at this;exact .cons h1 h2 this
end
def Ok.back{K:ce}{i:Nat}(k:Ok K B F H σ ρ)(hi:ρ[i]?=some (.own xs))(hs:σ[i]?=some (some<|.ref a))(x:Ext (Tv ⟨F,H⟩ a Uj) F' H')(r:Sh K F' Uj xs'):Ok K B F' H' σ (ρ.set i<|.own xs'):=by
 obtain⟨a',us,h1,h2,h3,h4,h5⟩:=k.Tj i xs hi;rw[h1]at hs;cases hs;have S1:i<ρ.length:=(List.getElem?_eq_some_iff.mp hi).1;have hu:∀b u,b≠a->H b=some u->H' b=some u:=λb u ne q=>x.sh b u (by show c6 H a (.lst Uj) b=some u;rw[aC ne];exact q);have UU:∀b,F b=none->(b=a\/H b≠none)->F' b=none:=λb hf hh=>by
  cases e:F' b with
  |none=>rfl
  |some o=>
   exfalso;rcases x.nw b (by rw[e];exact CK o)with z |z;·exact z hf
   ·have z':c6 H a (.lst Uj) b=none:=z;by_cases y:b=a;·subst y;rw[aI]at z';cases z'
    ·rw[aC y]at z';rcases hh with w |w;·exact y w
     ·exact w z'
 have hn:∀b,B.H b=none\/B.H b≠none:=λb=>by cases B.H b<;>simp
 refine⟨⟨x.sub,λb u q=>?_,k.sf.trans x.sf,λc q=>?_⟩,by rw[bq,k.len],λj d q=>?_,λj ys q=>?_,λj l ys zs b q1 q2 q3 q4=>?_,?_⟩;·exact hu b u (λz=>by subst z;rw[h4]at q;cases q)<|k.sh b u q
 ·rcases x.nw c q with z |z;·exact k.nw c z
  ·refine .inr ?_;have z':c6 H a (.lst Uj) c=none:=z;by_cases y:c=a;·subst y;rw[aI]at z';cases z'
   ·rw[aC y]at z';exact k.sh.free z'
 ·by_cases h:i=j;·subst h;rw[List.getElem?_set_self S1]at q;cases q
  ·rw[List.getElem?_set_ne h]at q;obtain⟨v,g1,g2⟩:=k.vals j d q;exact⟨v,g1,g2.mono x.sf⟩
 ·by_cases h:i=j;·subst h;rw[List.getElem?_set_self S1]at q;cases q;exact⟨a,Uj,h1,x.sh a _<|by show c6 H a (.lst Uj) a=_;rw[aI],UU a h3<|.inl rfl,h4,r⟩
  ·rw[List.getElem?_set_ne h]at q;obtain⟨b,vs,g1,g2,g3,g4,g5⟩:=k.Tj j ys q;have ne:b≠a:=λz=>by subst z;exact h<|k.dist i j xs ys b hi q h1 g1
   exact⟨b,vs,g1,hu b _ ne g2,UU b g3<|.inr<|by rw[g2];exact CK _,g4,g5.mono x.sf⟩
 ·have back:∀(m:Nat)ys,(ρ.set i<|.own xs')[m]?=some (.own ys)->∃ws,ρ[m]?=some (.own ws):=λm ys e=>by
   by_cases h:i=m;·subst h;exact⟨xs,hi⟩
   ·rw[List.getElem?_set_ne h]at e;exact⟨ys,e⟩
  obtain⟨w1,e1⟩:=back j ys q1;obtain⟨w2,e2⟩:=back l zs q2;exact k.dist j l w1 w2 b e1 e2 q3 q4
 ·exact k.So.to x.sf (λb φ e1 e2 e3=>by
   have ne:b≠a:=λz=>by subst z;rw[h2]at e1;cases e1
   exact⟨hu b _ ne e1,UU b e2 (.inr (by rw[e1];exact CK _))⟩) (rO λ_ z=>nomatch z)
def Uo.SY{ρ':cA}{ρ:cA}{xs:aQ}{xs':aQ}(R:Nat->cA)(L:Nat->aQ)(h:∀(j:Nat)d,ds[j]?=some d->∃ρ1,Vi X (R j) tg d ρ1/\UZ X q ρ1 body (.nx<|R<|j+1) (L j) (L<|j+1))(e0:R 0=ρ)(l0:L 0=xs)(e1:R ds.length=ρ')(l1:L ds.length=xs'):Uo X q tg body ds ρ xs ρ' xs':=by
 have:=Uo.Xq (X:=X) (p:=q) (tg:=tg) (body:=body) R L ds 0 λj d e=>by rw[Nat.zero_add];exact h j d e
 rw[Nat.zero_add,e0,l0,e1,l1]at this;exact this
def UZ.weak(h:UZ X q ρ T1 (.nx ρ1) xs xs')(w:U4 ρ1 ρ2):UZ X q ρ T1 (.nx ρ2) xs xs':=λB F H σ E us l k pq=>h B F H σ E us l k λF' H' σ' ws k' r s=>pq F' H' σ' ws (k'.weak w) r s
section
variable {K:ce}{rss:List aQ}
def Ext.stays{p:Addr}{H:Hp}(x:Ext ⟨F,H⟩ F' H')(h:H p=some (.lst us))(f:F p=none):F' p=none:=x.kf f h
end
abbrev Tb:=List<|Addr×aQ
structure Vq(K:ce)(B:B0)(F H:Hp)(σ:St)(ρ:cA)(T:Tb):Prop where
 nd:(T.map (·.1)).Nodup
 st:∀x∈T,∃us,H x.1=some (.lst us)/\F x.1=none/\Sh K F us x.2
 bn:∀x∈T,B.H x.1=none
 no:∀x∈T,Tw σ ρ x.1
def DQ(x:Int)(k:Nat):Builtin.bitAnd x (2 ^ k-1)=x%2 ^ k:=by
 have e:((2:Int) ^ k-1)=((2 ^ k-1:Nat):Int):=by have:1<=2 ^ k:=D2;rw[Int.natCast_sub this,Int.natCast_pow];rfl
 have hp:(0:Int)<=2 ^ k-1:=by rw[e];exact Int.natCast_nonneg _
 have et:((2:Int) ^ k-1).toNat=2 ^ k-1:=by rw[e];exact aO _
 have ek:((2 ^ k:Nat):Int)=(2:Int) ^ k:=by rw[Int.natCast_pow];rfl
 by_cases hx:0<=x;·rw[bitAnd_pp hx hp,et,IR,Int.natCast_emod,ek,gA hx]
 ·rw[bitAnd_np hx hp,et,Nat.and_comm,IR,Int.natCast_emod,ek];unfold Builtin.bitNot;rw[gA<|by lia];have Zx:(0:Int)<2 ^ k:=by rw[<-ek];exact Int.natCast_pos.mpr<|Nat.two_pow_pos k
  generalize(2:Int) ^ k=m at*;have h1:=ft (-x-1)<|Int.ne_of_gt Zx;have h2:=rD (-x-1) Zx;have h3:=Int.mul_ediv_add_emod (-x-1) m;have h4:x=m-1-(-x-1)%m+m*(-((-x-1) / m)-1):=by
   have:m*(-((-x-1) / m)-1)=-(m*((-x-1) / m))-m:=by rw[Int.mul_sub,Int.mul_neg,Int.mul_one]
   lia
  have h5:x%m=(m-1-(-x-1)%m)%m:=by
   conv=>lhs;rw[h4]
   rw[Int.add_mul_emod_self_left]
  have h6:(m-1-(-x-1)%m)%m=m-1-(-x-1)%m:=Int.emod_eq_of_lt (by lia) (by lia);rw[h5,h6]
def EQ{k:Nat}(ha:Se X ρ a (.int i))(hb:Se X ρ b (.int<|2 ^ k-1)):Se X ρ (.BinOp a .BitAnd b pos) (.int<|i%2 ^ k):=wN MJ ha hb<|DQ i k
def Ah{p:PyData}(t:At X N sc){qs:List PyData}(sp:p.canLay0=true)(sd:p.depth<=62)(sq:PyData.canLayAll0 qs=true):mK X (compareOp .In) (λx y H Q=>VM X H x p/\VM X H y (.tuple qs)/\Q (.bl (qs.any λy=>PyData.eqv y p)) H):=by intro pins s σ H x y v u Q I rx ry h;obtain⟨h1,h2,h3⟩:=h;obtain⟨as,r1⟩:=h1 sp H (.refl _) pins σ s v I rx;obtain⟨bs,r2⟩:=h2 (by simpa[PyData.canLay0]using sq) H (.refl _) pins σ s u I ry;refine SeqAt.in_tuple_reads r2 r1 sq sp ?_ ⟨.bl _,H,I,rfl,h3⟩;have hu:=t.un;have:min (PyData.depthAll qs) p.depth<=p.depth:=IQ _ _;lia
def jQ{r:Bool}(t:At X N sc)(ha:Se X ρ a d)(hb:Se X ρ b (.tup xs))(sp:(fS d).canLay0=true)(sd:(fS d).depth<=62)(sq:PyData.canLayAll0 (Sq xs)=true)(he:((Sq xs).any λy=>PyData.eqv y<|fS d)=r)(hm:behindInMarks .In b=false:=by rfl):Sg X ρ (.Compare a [.In] [b] pos) r:=.of (fY (Ah t sp sd sq) aR aR hm) λB F H σ Q k q=>zy (Se.p ha) (Se.p hb) k λx y F' H' x' rx ry=>⟨rx,ry,r,by rw[he],q F' H' x'⟩
def c9(ha:Se X ρ a (.str z))(hb:Se X ρ b (.int i))(hz:z.length<=sizeLine)(h:kS z.cps.toList i=some c)(hs:sV b:=by intro _ _;rfl):Se X ρ (.Subscript a b pos) (.str ⟨#[c]⟩):=.of (Ex M5 aR aR hs) λB F H σ Q k q=>two ha hb k λx y F' H' x' rx ry=>by cases rx;cases ry;exact⟨z,i,c,rfl,rfl,hz,h,q _ F' H' x'<|.str _⟩
def Jz{p:PyData}(t:At X N sc){qs:List PyData}(sp:p.canLay0=true)(sd:p.depth<=62)(sq:PyData.canLayAll0 qs=true):mK X (compareOp .NotIn) (λx y H Q=>VM X H x p/\VM X H y (.tuple qs)/\Q (.bl (!qs.any λy=>PyData.eqv y p)) H):=by intro pins s σ H x y v u Q I rx ry h;obtain⟨h1,h2,h3⟩:=h;obtain⟨as,r1⟩:=h1 sp H (.refl _) pins σ s v I rx;obtain⟨bs,r2⟩:=h2 (by simpa[PyData.canLay0]using sq) H (.refl _) pins σ s u I ry;refine SeqAt.notIn_tuple_reads r2 r1 sq sp ?_ ⟨.bl _,H,I,rfl,h3⟩;have hu:=t.un;have:min (PyData.depthAll qs) p.depth<=p.depth:=IQ _ _;lia
def ER{r:Bool}(t:At X N sc)(ha:Se X ρ a d)(hb:Se X ρ b (.tup xs))(sp:(fS d).canLay0=true)(sd:(fS d).depth<=62)(sq:PyData.canLayAll0 (Sq xs)=true)(he:(!(Sq xs).any λy=>PyData.eqv y<|fS d)=r)(hm:behindInMarks .NotIn b=false:=by rfl):Sg X ρ (.Compare a [.NotIn] [b] pos) r:=.of (fY (Jz t sp sd sq) aR aR hm) λB F H σ Q k q=>zy (Se.p ha) (Se.p hb) k λx y F' H' x' rx ry=>⟨rx,ry,r,by rw[he],q F' H' x'⟩
def Nr{r:Bool}(t:At X N sc)(ha:Se X ρ a d)(hb:Se X ρ b (.tup xs))(sp:(fS d).canLay0=true)(sd:(fS d).depth<=62)(sq:PyData.canLayAll0 (Sq xs)=true)(he:((Sq xs).any λy=>PyData.eqv y<|fS d)=r)(hm:behindInMarks .In b=false:=by rfl):Se X ρ (.Compare a [.In] [b] pos) (.bl r):=.of (pN (Ah t sp sd sq) aR aR hm) λB F H σ Q k q=>zy (Se.p ha) (Se.p hb) k λx y F' H' x' rx ry=>⟨rx,ry,by rw[he];exact q _ F' H' x'<|.bl r⟩
def Uc(X:Cx)(q:Addr)(ρ:cA)(e:Expr)(d:D)(xs xs':aQ):Prop:=∀(B:B0)(F H:Hp)(σ:St)(Q:VK)(us:dw),Uq X.K B q F us xs->Ok X.K B F H σ ρ->(∀v F' H' Uj,Ext (Tv ⟨F,H⟩ q Uj) F' H'->Sh X.K F' Uj xs'->Rep X.K F' v d->Q v H')->wE X e σ H Q
def IM(X:Cx)(q:Addr)(ρ:cA)(es:rH)(ds:aQ)(xs xs':aQ):Prop:=VG es/\∀(B:B0)(F H:Hp)(σ:St)(Q:dw->Hp->Prop)(us:dw),Uq X.K B q F us xs->Ok X.K B F H σ ρ->(∀vs F' H' Uj,Ext (Tv ⟨F,H⟩ q Uj) F' H'->Sh X.K F' Uj xs'->Sh X.K F' vs ds->Q vs H')->wA X es σ H Q
def KN(X:Cx)(q:Addr)(ρ:cA)(e:Expr)(b:Bool)(xs:aQ):Prop:=∀(B:B0)(F H:Hp)(σ:St)(Q:Bool->Hp->Prop)(us:dw),Uq X.K B q F us xs->Ok X.K B F H σ ρ->(∀F' H',Ext ⟨F,H⟩ F' H'->Q b H')->wT X e σ H Q
def D7{H:Hp}(x:Ext (Tv ⟨F,H⟩ q us) F1 H1)(hf:F q=none):F1 q=none:=x.kf hf aI
def Ext.zBT{H:Hp}(x:Ext (Tv ⟨F,H⟩ q us) F1 H1)(hf:F q=none):Ext (Tv ⟨F,H⟩ q ws) F1 (c6 H1 q<|.lst ws):=by
 have h1:=D7 x hf;refine⟨λb u z=>?_,λb u z=>?_,x.sf,λa z=>?_⟩
 ·have ne:b≠q:=λw=>by subst w;rw[h1]at z;cases z
  rw[aC ne];exact x.sub b u z
 ·have z':c6 H q (.lst ws) b=some u:=z;by_cases ne:b=q;·subst ne;rw[aI]at z' ⊢;exact z'
  ·rw[aC ne]at z' ⊢;exact x.sh b u<|by show c6 H q (.lst us) b=some u;rw[aC ne];exact z'
 ·have ne:a≠q:=λw=>by subst w;exact z h1
  rcases x.nw a z with y |y;·exact .inl y
  ·refine .inr ?_;have y':c6 H q (.lst us) a=none:=y;show c6 H q (.lst ws) a=none;rw[aC ne]at y' ⊢;exact y'
def Ext.tM{H:Hp}(x:Ext (Tv ⟨F,H⟩ q us) F1 H1)(hf:F q=none)(y:Ext (Tv ⟨F1,H1⟩ q ws) F2 H2):Ext (Tv ⟨F,H⟩ q ws) F2 H2:=(x.zBT hf).trans y
def Ext.toM{H:Hp}{q:Addr}(x:Ext ⟨F,H⟩ F' H')(h:H q=some (.lst us)):Ext (Tv ⟨F,H⟩ q us) F' H':=by rw[Tv.same (B:=⟨F,H⟩) h];exact x
section
variable {st:Stmt}{bJ:List Stmt}{ds:aQ}
def Ok.Vc{K:ce}(k:Ok K B F H σ ρ)(l:Uq K B q F us xs)(x:Ext (Tv ⟨F,H⟩ q ws) F' H'):Ok K (Tv B q ws) F' H' σ ρ:=(k.X7 l).ext x
def Uq.ff{K:ce}(l:Uq K B q F us xs)(k:Ok K B F H σ ρ):F q=none:=l.free k.toExt
def Se.em(h:Se X ρ e d):Uc X q ρ e d xs xs:=λB F H σ Q us l k w=>h B F H σ Q k λv F' H' x r=>w v F' H' us (x.toM<|k.sh _ _ l.st) (l.rep.mono x.sf) r
def S3.am(h:S3 X ρ es ds):IM X q ρ es ds xs xs:=⟨h.1,λB F H σ Q us l k w=>h.2 B F H σ Q k λv F' H' x r=>w v F' H' us (x.toM<|k.sh _ _ l.st) (l.rep.mono x.sf) r⟩
def Bo(h1:Uc X q ρ e d xs UH)(h2:IM X q ρ es ds UH xs')(hs:Pl e:=by intro _ _;rfl):IM X q ρ (e::es) (d::ds) xs xs':=⟨⟨hs,h2.1⟩,λB F H σ Q us l k w=>.mk λpos pins s I=>ck aR pZ (hs _ _) pos pins s σ H Q I (h1 B F H σ _ us l k λv F1 H1 u1 x1 r1 rv=>h2.2 (Tv B q u1) F1 H1 σ _ u1 ⟨aI,l.fr,r1⟩ (k.Vc l x1) λvs F2 H2 u2 x2 r2 Ze=>w _ F2 H2 u2 (x1.tM (l.ff k) x2) r2<|.cons (rv.mono x2.sf) Ze)⟩
def lQ{pos:Pos}[Vh X](t:At X N sc)(i:Nat)(h:Uc X q ρ e d xs xs')(hi:N[i]?=some x:=by rfl)(hx:nJ sc x=true:=by rfl)(hs:swapsWith e (some<|.Name x pos') pos.line X.env=pure false:=by rfl):rk X q ρ (.Assign [.Name x pos'] e pos) (.nx<|ρ.set i<|.val d) xs xs':=λB F H σ E us l k w=>(.mk λpins s I=>oz (i:=i) t.nd (t.ix hi) (t.loc hx) aR hs Gn pins s σ H E I (h B F H σ _ us l k λv F' H' u1 x' r rv=>w F' H' _ u1 ((k.Vc l x').Ta i rv) r x'.sf))
def Hz(h:Uc X q ρ e d xs xs'):rk X q ρ (.Return (some e) pos) (.rt d) xs xs':=λB F H σ E us l k w=>(.mk λpins s I=>vX aR pins s σ H E I (h B F H σ _ us l k λv F' H' u1 x' r rv=>w v F' H' u1 (k.Vc l x').toExt r rv))
def EF(h1:rk X q ρ st (.rt d) xs xs'):UZ X q ρ (st::bJ) (.rt d) xs xs':=λB F H σ E us l k w=>(.mk λpins s I=>gP vW dz pins s σ H E I<|h1 B F H σ _ us l k w)
def Sg.l{xs:aQ}(h:Sg X ρ e r):KN X q ρ e r xs:=λB F H σ Q us l k w=>h B F H σ Q k w
def EE{X:Cx}(w:Um X.K B q F E xs' o)(s:Sj F F1):Um X.K B q F1 E xs' o:=by
 cases o with
 |nx ρ'=>exactλF' H' σ' ws k r s'=>w F' H' σ' ws k r<|s.trans s'
 |rt d=>exact w
def qy(hc:KN X q ρ c true xs)(h:UZ X q ρ ss o xs xs'):rk X q ρ (.If c ss Uj pos) o xs xs':=λB F H σ E us l k w=>(.mk λpins s I=>uu lO dz dz pins s σ H E I (hc B F H σ _ us l k λF1 H1 x1=>by rw[ax rfl];exact h B F1 H1 σ E us (l.ext x1) (k.ext x1)<|EE w x1.sf))
def nX(hc:KN X q ρ c false xs)(h:UZ X q ρ Uj o xs xs'):rk X q ρ (.If c ss Uj pos) o xs xs':=λB F H σ E us l k w=>(.mk λpins s I=>uu lO dz dz pins s σ H E I (hc B F H σ _ us l k λF1 H1 x1=>by rw[av ay];exact h B F1 H1 σ E us (l.ext x1) (k.ext x1)<|EE w x1.sf))
def HI:HJ (Sum.inr "xs") (.str "xs" tk)=true:=by show Value.isStrOf "xs" (.str "xs" tk)=true;simp[Value.isStrOf]
def K6{i:Nat}{Q:VK}{ρ:cA}(t:At X N sc)(hr:ρ[i]?=some (.val<|.TL q))(hN:N[i]?=some x)(hv:fO sc x=true)(hx:cZ x=true)(k:Ok X.K B F H σ ρ)(h:Q (.ref q) H):wE X (.Subscript (.Name x py) (.Constant (.str "xs") j p2) pos) σ H Q:=.mk λpins s I=>by
 obtain⟨v,h1,h2⟩:=k.vals i _ hr;cases h2 with|@TL a _ e=>
 refine Subscript_ (dW (tG t hN hv hx pins s σ H (λv H1=>v=.ref a/\H1=H) I ⟨_,h1,rfl,rfl⟩) λu s1 ⟨v,H1,I1,rv,ev,eh⟩=>?_);subst ev;subst eh;cases(show u=Value.ref a from rv);refine dW (De pins s1 σ H1 (λv H2=>v=.str "xs"/\H2=H1) I1 ⟨rfl,rfl⟩) λiv s2 ⟨w,H2,I2,U1,ew,eh⟩=>?_;subst ew;subst eh;obtain⟨tk,rfl⟩:=(show∃t,iv=Value.str "xs" t from U1);obtain⟨z,Yn,vs,rel,dd⟩:=(show Su X.prog X.w H2 s2.heap a (.dK [(Sum.inr "xs",.ref q)])from I2.SA a _<|k.sub _ _ e);cases rel with|@cons _ kv _ vs' hkv tl=>
 cases tl;obtain⟨kk,w'⟩:=kv;obtain⟨e1,e2⟩:=hkv;have e1':(Sum.inr (Str.ofString "xs"):xw)=kk:=e1;subst e1';cases(show w'=Value.ref q from e2);refine rF (x:=.ref q) dd.typeIs PySem.F.slot_dict_getitem.lookup ?_ (by rfl);exact wpAny_getItem_of (knd:=sv X.prog X.w) (Q:=λr s'=>r=.ref q/\EP X pins σ Q r s') (k:=Sum.inr "xs") (HI (tk:=tk)) dd.mapOf (by simp[valueAt]) ⟨rfl,.ref q,H2,I2.tok _,rfl,h⟩
def BF{r:Bool}{ns:bh}{ρ:cA}{xs:aQ}(t:At X N sc)(i:Nat)(hr:ρ[i]?=some (.val<|.TL q))(hx0:xs=ns.map D.int)(he:r=ns.isEmpty)(hN:N[i]?=some x:=by rfl)(hv:fO sc x=true:=by rfl)(hx:cZ x=true:=by rfl):KN X q ρ (.Compare (.Subscript (.Name x py) (.Constant (.str "xs") j p2) p1) [.Eq] [.List [] p3] pos) r xs:=λB F H σ Q us l k w=>.mk λpins s I=>by
 subst hx0;have sh:SeqAt.shaped (PyData.list<|Sq<|ns.map D.int)=true:=by rw[jc];exact Sb ns
 refine fY (Eo t (p:=.list<|Sq<|ns.map D.int) (q:=.list []) sh rfl) aR aR (dF _ (by decide)<|by decide) pins s σ H Q I ?_;refine K6 t hr hN hv hx k ?_;refine(bE (X:=X) (ρ:=ρ) ah).toQ.p B F H σ _ k λv F' H' x' rd=>?_;refine⟨λhc H2 s2 pins σ s u I ru=>?_,rd,r,?_,w F' H' x'⟩;·cases(show u=Value.ref q from ru);exact Xi.reads (k:=true) I (x'.sub.trans s2) (show Ts _ _ _ _ from Ts.of<|s2 _ _<|x'.sh _ _<|k.sh _ _ l.st) (l.rep.mono x'.sf) hc
 ·subst he;cases ns with|nil=>rfl|cons n ns=>rfl
def Nw{apos Sr:Pos}{ρ:cA}{xs:aQ}{xs':aQ}(t:At X N sc)(i:Nat)(hr:ρ[i]?=some (.val<|.TL q))(hxs:xs=xs'++[d])(hN:N[i]?=some x:=by rfl)(hv:fO sc x=true:=by rfl)(hx:cZ x=true:=by rfl)(S4:(apos.endLine==Sr.line)=true:=by rfl):Uc X q ρ (.Call (.Attribute (.Subscript (.Name x py) (.Constant (.str "xs") j p2) p1) "pop" apos) [] [] Sr) d xs xs':=λB F H σ Q us l k w=>.mk λpins s I=>by
 subst hxs;refine An dL yh yg Dj aR rfl S4 pins s σ H Q I ?_;refine K6 t hr hN hv hx k ?_;have h2:H q=some (.lst us):=k.sh _ _ l.st;refine⟨.inl ⟨rfl,_,Ts.of h2⟩,?_⟩;have hl:=l.rep.length;obtain⟨v,hw,U1⟩:=l.rep.get (i:=xs'.length) (d:=d) (by simp);have hll:us.length-1=xs'.length:=by rw[hl];simp
 refine⟨q,us,v,rfl,rfl,h2,by rw[hll];exact hw,?_⟩;have hf:=l.ff k;have rd:=l.rep.dropLast;rw[Bu]at rd;exact w v F _ us.dropLast ⟨λb u z=>by rw[aC λe=>by subst e;rw[hf]at z;cases z];exact k.sub b u z,λb u z=>z,.refl _,λa z=>.inl z⟩ rd U1
def Ef(K:ce)(C:aQ->aQ->D->aQ->Prop):Sp:=λvs H Q _=>∃q F ds d us xs xs',Sj F H/\H q=some (.lst us)/\F q=none/\Sh K F us xs/\Sh K F vs (.TL q::ds)/\C ds xs d xs'/\∀v F' H' Uj,Ext (Tv ⟨F,H⟩ q Uj) F' H'->Sh K F' Uj xs'->Rep K F' v d->Q v H'
def SX(X:Cx)(x:Str)(C:aQ->aQ->D->aQ->Prop):Prop:=∃(f:Addr)(fd:FuncData)(ps:cH)(k:Nat),dQ X.prog X.w X.K X.mg X.base ja k f fd ps (Ef X.K C)/\SR k X.A/\X.mg x=some (.ref f)/\PySem.W.keepIn X.K (.ref f)=true/\Binds X.K fd ps []
def Nb{P:Program}(Ti:P.given.tree=none){w:World}{K:ce}{mg:rG}{base:Heap}{x qual:Str}{st:Stmt}{f:Addr}{fd:FuncData}{N ps:cH}{k:Nat}{C:aQ->aQ->D->aQ->Prop}(F:V2 K x qual st f fd)(S:aJ N ps (ai st))(len:∀ds xs d xs',C ds xs d xs'->ds.length+1=ps.length)(body:∀X,DefX P w K mg base k N (ai st) X->∀q ds xs d xs',C ds xs d xs'->UZ X q (.val (.TL q)::ds.map Sl.val++List.replicate (N.length-(ds.length+1)) Sl.un) (aD st) (.rt d) xs xs'):dQ P w K mg base ja (k+1) f fd ps (Ef K C):=by
 refine F.ok S (λvs H Q E h=>?_) λS8 A outer s H vs Q E hr h=>?_;·obtain⟨p,F',ds,d,us,xs,xs',sub,hp,hf,ru,r,hC,q⟩:=h;rw[r.length];exact len ds xs d xs' hC
 ·obtain⟨p,F',ds,d,us,xs,xs',sub,hp,hf,ru,r,hC,q⟩:=h;refine⟨_,dz,?_⟩;have hx:DefX P w K mg base k N (ai st) (mI ja P w K mg base N qual (ai st) f S8 A outer s H E).U7:=⟨⟨rfl,rfl,rfl,S.nd,rfl,hr.units,hr.UE,Ti,⟨_,_,rfl,S.gen,S.co,rfl,rfl⟩⟩,rfl,rfl,rfl,rfl,rfl,hr,⟨λ_=>rfl⟩,rfl,rfl⟩;have hk:Ok K ⟨F',H⟩ F' H (start N vs) (.val (.TL p)::ds.map Sl.val++List.replicate (N.length-(ds.length+1)) Sl.un):=by unfold start;rw[r.length];exact iN sub r _
  exact body _ hx p ds xs d xs' hC ⟨F',H⟩ F' H _ _ us ⟨hp,hf,ru⟩ hk λv F2 H2 Wo x2 r2 rv=>q v F2 H2 Wo x2 r2 rv
def DefX.XO{K:ce}{x:Str}{C:aQ->aQ->D->aQ->Prop}(h:DefX P w K mg base k N sc X)(F:dQ P w K mg base ja j f fd ps (Ef K C))(hj:j<=k)(hm:mg x=some (.ref f))(hk:PySem.W.keepIn K (.ref f)=true)(hb:Binds K fd ps []):SX X x C:=by obtain⟨h0,rfl,rfl,rfl,rfl,rfl,hr,_⟩:=h;exact⟨f,fd,ps,j,F,hr.mono hj,hm,hk,hb⟩
def gv(t:At X N sc){C:aQ->aQ->D->aQ->Prop}(h:SX X x C)(ha:IM X q ρ (e::es) (.TL q::ds) xs UH)(hC:C ds UH d xs')(hg:uY sc x:=by rfl)(T7:qF x:=by rfl):Uc X q ρ (.Call (.Name x p) (e::es) [] pos) d xs xs':=λB F0 H σ Q us l k w=>.mk λpins s I=>by obtain⟨f,fd,ps,kk,F,Wr,hm,hk,hb⟩:=h;have pz:ia ja X E0:=qx;refine j8 F Wr (dS t hg) hm hk hb .nil pz pZ T7 (ha.1.1 _ _) (VG.any ha.1.2) pins s σ H Q I (ha.2 B F0 H σ _ us l k λvs F1 H1 u1 x1 r1 rv=>?_);have k1:=k.Vc l x1;refine⟨q,F1,ds,d,u1,UH,xs',k1.sub,k1.sh _ _ aI,D7 x1<|l.ff k,r1,by rw[bC];exact rv,hC,λv F2 H2 u2 x2 r2 Xt=>w v F2 H2 u2 (x1.tM (l.ff k) x2) r2 Xt⟩
def Ext.Xu{H:Hp}{l:Addr}(x:Ext ⟨F,H⟩ F1 H1)(h0:H l=none)(hf:F1 l=none)(y:Ext (Tv ⟨F1,H1⟩ l us) F2 H2):Ext ⟨F,H⟩ F2 H2:=by
 refine Ext.trans (F:=F1) (H:=c6 H1 l<|.lst us) ⟨λb u z=>?_,λb u z=>?_,x.sf,x.nw⟩ y;·rw[aC λe=>by subst e;rw[hf]at z;cases z];exact x.sub b u z
 ·have z':H b=some u:=z;rw[aC λe=>by subst e;rw[h0]at z';cases z'];exact x.sh b u z
def Ma{Q:VK}(t:At X N sc)(h1:Ss X ρ e xs)(k:Ok X.K B F H σ ρ)(w:∀a l vs F' H',Ext ⟨F,H⟩ F' H'->H l=none->H' l=some (.lst vs)->F' l=none->Sh X.K F' vs xs->Rep X.K F' (.ref a) (.TL l)->Q (.ref a) H'):wE X (.Dict [some<|.Constant (.str "xs") j p1] [e] p2) σ H Q:=.mk λpins s I=>by
 rw[arm_eval_Dict,zip_pairTrees [some<|.Constant (.str "xs") j p1] [e] X.env p2 rfl rfl];have U2:(pairTrees [some<|.Constant (.str "xs") j p1] [e] X.env p2).length=1:=pairTrees_length _ _ X.env p2 rfl rfl;rw[dictDisplay_pairs _ (λz=>by rw[z]at U2;cases U2)<|by lia];refine ag<|qE<|ag ?_;unfold subDict;refine ag<|Qe ?_;have hn:=I.SA.fresh<|ar s.heap.objs.size;have hbg:sysModules<s.heap.objs.size:=ml (by decide) (show mainGlobals<s.heap.objs.size from(I.mod.glob.keeps I.bk).lt);have Yn:(s.heap.objs.size==sysModules)=false:=br.mpr<|cV<|bw hbg;have I1:=I.laid (a:=s.heap.objs.size) (o:=.dK []) (h':=s.heap.push {cls:=.type "dict",data:=.dict #[]}) (t':=s.toks) (λ_ _ q=>Heap.get?_push_of_some _ q) (ar _) (show Su X.prog X.w _ _ s.heap.objs.size (.dK [])from⟨bR _,Yn,[],.nil,Heap.DictOf.new s.heap⟩);have x1:Ext ⟨F,H⟩ F (c6 H s.heap.objs.size<|.dK []):=⟨k.sub.trans<|aU hn,aU hn,.refl _,λ_ z=>.inl z⟩;have hfa:F s.heap.objs.size=none:=k.sub.free hn;refine ag<|gT ?_;rw[ax<|by lia];generalize s.heap.objs.size=a at hn Yn I1 x1 hfa ⊢;refine ag ?_;refine pairTrees_cons_walk (dW (De pins _ σ _ (λv H2=>v=.str "xs"/\H2=c6 H a (.dK [])) I1 ⟨rfl,rfl⟩) λu s1 ⟨v,H1,I2,rv,ev,eh⟩=>?_);subst ev;subst eh;obtain⟨tk,rfl⟩:=(show∃t,u=Value.str "xs" t from rv);refine dW (h1 B F _ σ (λv H2=>∃l vs F2,v=.ref l/\Ext ⟨F,c6 H a<|.dK []⟩ F2 H2/\c6 H a (.dK []) l=none/\H2 l=some (.lst vs)/\F2 l=none/\Sh X.K F2 vs xs) (k.ext x1) (λl vs F2 H2 x2 g1 g2 g3 g4=>⟨l,vs,F2,rfl,x2,g1,g2,g3,g4⟩) pins s1 I2) λu2 s2 ⟨v2,H2,I3,Xt,l,vs,F2,ev,x2,g1,g2,g3,g4⟩=>?_;subst ev;cases(show u2=Value.ref l from Xt);refine pairTrees_nil_walk ?_;refine gT<|ag ?_;have ha2:H2 a=some (.dK []):=x2.sh _ _ aI;obtain⟨z,_,vs0,rel,dd⟩:=(show Su X.prog X.w H2 s2.heap a (.dK [])from I3.SA a _ ha2);cases rel;rw[xz];refine ag<|ag<|wpAny_dictSet_pairs (knd:=sv X.prog X.w) (k:=Sum.inr "xs") (HI (tk:=tk)) dd (λh' X6 sb=>?_)<|bR _;refine aA ?_;show wpAny _ _ (forIn [] PUnit.unit _) _ _ _;rw[List.forIn_nil];refine aA<|aA ?_;have Vz:stored (K:=xw) [] (Sum.inr<|Str.ofString "xs") (Value.ref l)=[((Sum.inr (Str.ofString "xs"):xw),Value.ref l)]:=rfl;rw[Vz]at X6;have I4:Inv X pins σ (c6 H2 a<|.dK [(Sum.inr "xs",.ref l)]) {s2 with heap:=h',toks:=s2.toks+1}:=I3.write (x:=a) (e:=a) (by rw[ha2];exact True.intro) (.inl rfl) (λc q hc w=>(sb.2 c hc).trans w) (let⟨o,_,_,h1,_⟩:=X6;⟨o,h1⟩) (show Su X.prog X.w _ _ a (.dK [(Sum.inr "xs",.ref l)])from⟨by show 1<=sizeLine;rw[xx];decide,Yn,[((Sum.inr (Str.ofString "xs"):xw),Value.ref l)],.cons ⟨rfl,rfl⟩ .nil,X6⟩);refine aA<|aA ⟨.ref a,_,I4,rfl,?_⟩;have Xc:F2 a=none:=x2.kf hfa aI;have Xo:=x1.t x2;have hla:l≠a:=λz=>by subst z;rw[aI]at g1;cases g1
 have hl0:H l=none:=by rw[aC hla]at g1;exact g1
 refine w a l vs (c6 F2 a<|.dK [(Sum.inr "xs",.ref l)]) _ ⟨vy Xo.sub,λc u z=>?_,Xo.sf.trans<|aU Xc,λc z=>?_⟩ hl0 (by rw[aC hla];exact g2) (by rw[aC hla];exact g3) (g4.mono<|aU Xc)<|.TL aI
 ·have ne:c≠a:=λe=>by subst e;have z':H c=some u:=z;rw[hn]at z';cases z'
  rw[aC ne];exact Xo.sh c u z
 ·by_cases e:c=a;·subst e;exact .inr hn
  ·rw[aC e]at z;exact Xo.nw c z
def Ia(t:At X N sc){C:aQ->aQ->D->aQ->Prop}(h:SX X x C)(h1:Ss X ρ e xs)(ha:S3 X ρ es ds)(hC:C ds xs d xs')(hg:uY sc x:=by rfl)(T7:qF x:=by rfl):Se X ρ (.Call (.Name x p) (.Dict [some<|.Constant (.str "xs") j p1] [e] p2::es) [] pos) d:=λB F0 H σ Q k w=>.mk λpins s I=>by obtain⟨f,fd,ps,kk,F,Wr,hm,hk,hb⟩:=h;have pz:ia ja X E0:=qx;have U2:Pl (.Dict [some<|.Constant (.str "xs") j p1] [e] p2):=λ_ _=>rfl;refine j8 F Wr (dS t hg) hm hk hb .nil pz pZ T7 (U2 _ _) (VG.any ha.1) pins s σ H Q I ?_;refine .mk λpos' pins s I=>?_;refine ck (aR (e:=.Dict [some<|.Constant (.str "xs") j p1] [e] p2)) (pZ (es:=es)) (U2 _ _) pos' pins s σ H _ I ?_;refine Ma t h1 k λa l vs F1 H1 x1 g0 g1 g2 g3 g4=>ha.2 B F1 H1 σ _ (k.ext x1) λws F2 H2 x2 r2=>?_;have Xc:F2 l=none:=x2.stays g1 g2;refine⟨l,F2,ds,d,vs,xs,xs',x2.sub,x2.sh _ _ g1,Xc,g3.mono x2.sf,by rw[bC];exact .cons (g4.mono x2.sf) r2,hC,λv F3 H3 u3 x3 r3 rv=>w v F3 H3 ((x1.t x2).Xu g0 Xc x3) rv⟩
end
mutual
inductive GP(K:ce):Value->PyData->Prop where
 |int (i:Int) (t:Tok):GP K (.int i t) (.int i)
 |str (x:Str) (t:Tok):GP K (.str x t) (.str x)
 |tup {a:Addr} {o:Obj} {its:Array Value} {n:Nat} {ps:List PyData}:K.lookup a=some o->o.cls=.type "tuple"->o.data=.seq its n->Xm K its.toList ps->GP K (.ref a) (.tuple ps)
inductive Xm(K:ce):ir->List PyData->Prop where
 |nil:Xm K [] []
 |cons {v:Value} {vs:ir} {p:PyData} {ps:List PyData}:GP K v p->Xm K vs ps->Xm K (v::vs) (p::ps)
end
mutual
def GP.reads{K:ce}(i:K.In h):∀{v:Value}{p:PyData},GP K v p->∃as,Reads h v p as
 |_,_,.int i t=>⟨_,.int i t⟩|_,_,.str x t=>⟨_,.str x t⟩
 |_,_,.tup e c d r=>by obtain⟨as,ra⟩:=Xm.reads i r;exact⟨_,.tuple (i _ _ e) c d ra⟩
def Xm.reads{K:ce}(i:K.In h):∀{vs:ir}{ps:List PyData},Xm K vs ps->∃as,ReadsAll h vs ps as|_,_,.nil=>⟨_,.nil⟩|_,_,.cons a b=>by obtain⟨as,ra⟩:=GP.reads i a;obtain⟨bs,rb⟩:=Xm.reads i b;exact⟨_,.cons ra rb⟩
end
def oQ{x:Str}(t:At X N sc)(hm:X.mg x=some (.ref l))(hk:GP X.K (.ref l) q)(hg:uY sc x:=by rfl)(T7:qF x:=by rfl):D0 X ρ (.Name x pos) q:=λB F H σ Q k w=>.mk λpins s I=>va (v:=.ref l) (dS t hg) hm rfl T7 pins s σ H Q I (w _ F H (.refl k.sub) λhc H' s' pins σ s u I ru=>by cases(show u=Value.ref l from ru);exact hk.reads I.UP)
def wP{r:Bool}(t:At X N sc){qs:List PyData}(ha:D0 X ρ a q)(hb:D0 X ρ b (.tuple qs))(sp:q.canLay0=true)(sd:q.depth<=62)(sq:PyData.canLayAll0 qs=true)(he:(qs.any λy=>PyData.eqv y q)=r)(hm:behindInMarks .In b=false:=by rfl):Sg X ρ (.Compare a [.In] [b] pos) r:=.of (fY (Ah t sp sd sq) aR aR hm) λB F H σ Q k q=>zy ha hb k λx y F' H' x' rx ry=>⟨rx,ry,r,by rw[he],q F' H' x'⟩
def Pk:D->Bool|.Sy=>true |.bl _=>true |.int _=>true |.str _=>true |.tup _=>true |.lst _=>true |.So _=>true |_=>false
def Ka{X:Cx}(hk:PySem.W.kitOne X.K (.type "dict") (.type T)=some k):gS X (.builtin "isinstance") (λxs H Q=>∃x F kvs,xs=[x,.ty T]/\Sj F H/\Rep X.K F x (.So kvs)/\Q (.bl k) H):=by
 intro pins s σ H xs us Q I r h;obtain⟨v,F,kvs,rfl,sub,rv,q⟩:=h;obtain⟨u,w,rfl,ru,U1⟩:=yn r;cases(show w=Value.type T from U1);cases rv with|@So a ob _ zs hf _=>
 cases(show u=Value.ref a from ru);obtain⟨_,_,o,h1,h2,_⟩:=Us.is I (.inr ⟨ob,sub _ _ hf⟩:Us H a zs);exact cO Gd I.UP ⟨o,h1,h2.1⟩ hk (λz=>nomatch z) λtk=>⟨.bl k,H,I.tok tk,rfl,q⟩
def Kq(t:At X N sc)(bl:mf X sc x (.builtin "isinstance"))(bt:mf X sc y (.type T))(ha:Se X ρ a d)(hp:Pk d=true)(hk:PySem.W.kitOne X.K (PQ d) (.type T)=some k)(hpa:Pl a:=by intro _ _;rfl):Se X ρ (.Call (.Name x p) [a,.Name y py] [] pos) (.bl k):=by
 cases d with
 |So kvs=>exact .of (iM (Ka hk) (dS t bl.g) bl.m bl.v (ck aR (ck (Ao (v:=.ty T) (dS t bt.g) bt.m bt.v rfl bt.n bt.d) eM)<|hpa _ _) bl.n bl.d (hpa _ _) rfl) λB F H σ Q k' q=>ha B F H σ _ k' λv F' H' x' r=>⟨v,F',kvs,rfl,x'.sub,r,q _ F' H' x'<|.bl k⟩
 |Sy=>exact tX t bl bt ha hk (hpa:=hpa)|bl _=>exact tX t bl bt ha hk (hpa:=hpa)
 |int _=>exact tX t bl bt ha hk (hpa:=hpa)|str _=>exact tX t bl bt ha hk (hpa:=hpa)
 |tup _=>exact tX t bl bt ha hk (hpa:=hpa)|lst _=>exact tX t bl bt ha hk (hpa:=hpa)
 |Vg _=>cases hp
 |exc _=>cases hp
 |VJ _ _=>cases hp
 |adr _=>cases hp
 |TL _=>cases hp
def HN:D->Bool|.str _=>true |_=>false
def sC(t:At X N sc)(bl:mf X sc x (.builtin "isinstance"))(bt:mf X sc y (.type "str"))(ha:Se X ρ a d)(hp:Pk d=true)(hpa:Pl a:=by intro _ _;rfl):Se X ρ (.Call (.Name x p) [a,.Name y py] [] pos) (.bl<|HN d):=Kq t bl bt ha hp (by cases d<;>first |rfl |cases hp) hpa
def lF{α:Type}[DecidableEq α](u v:α):(u==v)=decide (u=v):=by
 by_cases h:u=v;·simp[h]
 ·simp[h]
def dk(w:Str):(fS<|.str w).depth<=62:=by simp[fS,PyData.depth]
def dN{w:Str}(h:PyData.strOk w=true):(fS<|.str w).canLay0=true:=by simp[fS,PyData.canLay0,h]
def fV{w:Str}(h:PyData.strOk w=true):SeqAt.shaped (fS<|.str w)=true:=by show((fS<|.str w).canLay0&&decide ((fS<|.str w).depth<=64))=true;rw[ap<|by have:=dk w;lia,dN h];rfl
def RX{u v:Str}(hu:PyData.strOk u=true)(hv:PyData.strOk v=true):PyData.canLayAll0 [.str u,.str v]=true:=by simp[PyData.canLayAll0,PyData.canLay0,hu,hv]
def cf(t:At X N sc)(ha:Se X ρ a (.str u))(hb:Se X ρ b (.str v))(hu:PyData.strOk u=true)(hv:PyData.strOk v=true:=by decide):Sg X ρ (.Compare a [.Eq] [b] pos) (decide<|u=v):=hW t ha.p hb.p (fV hu) (fV hv)<|by show(u==v)=_;exact lF u v
def oR(t:At X N sc)(ha:Se X ρ a (.str u))(hb:Se X ρ b (.str v))(hu:PyData.strOk u=true)(hv:PyData.strOk v=true:=by decide):Se X ρ (.Compare a [.Eq] [b] pos) (.bl<|decide<|u=v):=AG t ha.p hb.p (fV hu) (fV hv)<|by show(u==v)=_;exact lF u v
def Pe(u v w:Str):([PyData.str u,.str v].any λy=>PyData.eqv y<|.str w)=(decide (w=u)||decide (w=v)):=by show((u==w)||((v==w)||false))=_;rw[lF,lF,PM,bI.mpr<|Ru (a:=u),bI.mpr<|Ru (a:=v)]
def Nv{u v:Str}(t:At X N sc)(ha:Se X ρ a (.str w))(hw:PyData.strOk w=true)(hu:PyData.strOk u=true:=by decide)(hv:PyData.strOk v=true:=by decide):Sg X ρ (.Compare a [.In] [.Tuple [.Constant (.str u) i p1,.Constant (.str v) j p2] k p3] pos) (decide (w=u)||decide (w=v)):=jQ t (xs:=[.str u,.str v]) ha (aF<|ac Sd<|ac Sd ah) (dN hw) (dk w) (RX hu hv)<|Pe u v w
def Bl{i:Int}{ys:aQ}(hi:i=-1\/i=((ys++[d]).length:Int)-1):kS (ys++[d]) i=some d:=by
 unfold kS;have hl:(ys++[d]).length=ys.length+1:=by simp
 rcases hi with rfl |rfl
 ·have:EI (ys++[d]).length (-1)=some ys.length:=by unfold EI;simp[hl];lia
  rw[this];simp
 ·rw[Dt (j:=ys.length) (by lia) (by lia)<|by lia];simp
section
variable {bJ:List Stmt}
def vh(ha:Se X ρ a (.bl u))(hb:u=true->Se X ρ b (.bl v)):Se X ρ (.BoolOp .And [a,b] pos) (.bl<|u&&v):=by cases u with|true=>exact Ks ha (H9<|hb rfl)|false=>exact Kt ha
def H8(ha:Se X ρ a (.bl u))(hb:u=false->Se X ρ b (.bl v)):Se X ρ (.BoolOp .Or [a,b] pos) (.bl<|u||v):=by cases u with|true=>exact No ha|false=>exact Np ha<|H9<|hb rfl
def fG(ha:Sg X ρ a u)(hb:u=false->Sg X ρ b v):Sg X ρ (.BoolOp .Or [a,b] pos) (u||v):=by cases u with|true=>exact Ui.toT (tW ha)|false=>exact Ui.toT<|lR ha<|oO<|hb rfl
def Dz(ha:Sg X ρ a u)(hb:u=false->Sg X ρ b v)(hc:u=false->v=false->Sg X ρ c w):Sg X ρ (.BoolOp .Or [a,b,c] pos) (u||(v||w)):=by cases u with|true=>exact Ui.toT (tW ha)|false=>cases v with|true=>exact Ui.toT (lR ha<|tW<|hb rfl)|false=>exact Ui.toT<|lR ha<|lR (hb rfl)<|oO<|hc rfl rfl
def eQ(ha:Sg X ρ a u)(hb:u=true->Sg X ρ b v):Sg X ρ (.BoolOp .And [a,b] pos) (u&&v):=by cases u with|true=>exact Ui.toT (ly ha<|pQ<|hb rfl)|false=>exact Ui.toT<|nj ha
def EU(ha:Sg X ρ a u)(hb:u=true->Sg X ρ b v)(hc:u=true->v=true->Sg X ρ c w):Sg X ρ (.BoolOp .And [a,b,c] pos) (u&&(v&&w)):=by
 cases u with
 |true=>cases v with|true=>exact Ui.toT (ly ha<|ly (hb rfl)<|pQ<|hc rfl rfl)|false=>exact Ui.toT<|ly ha<|nj<|hb rfl
 |false=>exact Ui.toT<|nj ha
def iT(hc:Sg X ρ c u)(h1:u=true->Sf X ρ body (.rt d))(h2:u=false->Sf X ρ bJ (.rt d)):Sf X ρ (.If c body [] pos::bJ) (.rt d):=by cases u with|true=>exact fm (dD hc<|h1 rfl)|false=>exact au (cB hc bQ)<|h2 rfl
end
def all_map(g:D->Bool)(xs:aQ):(xs.map g).all id=xs.all g:=by rw[Gj];rfl
def T3.scan{σ:Type}(R:σ->cA)(I F:σ->Prop)(μ:σ->Nat)(st:∀s,I s->(Sg X (R s) c false/\F s)\/(Sg X (R s) c true/\(Sf X (R s) body (.rt d0)\/∃s',Sf X (R s) body (.nx<|R s')/\I s'/\μ s'<μ s))):∀(n:Nat)(s:σ),μ s<=n->I s->∃m o,T3 X c body m (R s) o/\(o=.rt d0\/∃s',o=.nx (R s')/\F s')
 |n,s,hn,hI=>by
  rcases st s hI with⟨h1,h2⟩ |⟨h1,h2 |⟨s',h2,h3,h4⟩⟩;·exact⟨0,_,.stop h1,.inr ⟨s,rfl,h2⟩⟩
  ·exact⟨0,_,.ret h1 h2,.inl rfl⟩
  ·cases n with|zero=>lia|succ n=>obtain⟨m,o,hr,ho⟩:=T3.scan R I F μ st n s' (by lia) h3;exact⟨m+1,o,.step h1 h2 hr,ho⟩
def FL{bJ:List Stmt}{σ:Type}(t:At X N sc)(R:σ->cA)(I F:σ->Prop)(μ:σ->Nat)(s0:σ)(h0:I s0)(st:∀s,I s->(Sg X (R s) c false/\F s)\/(Sg X (R s) c true/\(Sf X (R s) body (.rt d0)\/∃s',Sf X (R s) body (.nx<|R s')/\I s'/\μ s'<μ s)))(fin:∀s,F s->Sf X (R s) bJ (.rt d0)):Sf X (R s0) (.While c body [] pos::bJ) (.rt d0):=by
 obtain⟨m,o,hr,ho⟩:=T3.scan (X:=X) (c:=c) (body:=body) (d0:=d0) R I F μ st (μ s0) s0 (ar _) h0;have run:=fE (pos:=pos) t ⟨m,hr⟩;rcases ho with rfl |⟨s',rfl,hf⟩;·exact fm run
 ·exact au run<|fin s' hf
def Rt(mg:rG)(K:ce)(x:Str)(q:PyData):Prop:=∃l,mg x=some (.ref l)/\GP K (.ref l) q
def Lo(ns:bh):ns=[]\/∃m i,ns=m++[i]:=by cases h:ns.getLast? with|none=>exact .inl (List.getLast?_eq_none_iff.mp h)|some y=>obtain⟨ys,e⟩:=List.getLast?_eq_some_iff.mp h;exact .inr ⟨ys,y,e⟩
def O9{xs:aQ}{n:Nat}(h:n<=xs.length):L2.EV.cutD xs none (some (n:Int))=xs.take n:=by unfold L2.EV.cutD;rw[HT.VO,HT.Wf,KR h];simp
def AQ{n:Nat}:L2.EV.cutD xs (some (n:Int)) none=xs.drop n:=by
 unfold L2.EV.cutD;rw[HT.VO,HT.Wf];by_cases h:n<=xs.length;·rw[KR h];rw[<-bP,bW]
 ·rw[Nat.min_eq_right<|by lia,mn<|ar _,mn<|by lia];simp
structure LS where
 cs:Type
 ds:Type
 ov:cs->Addr->Option HO
 YO:∀c c' a,ov c a=none->ov c' a=none
 rep:ce->Hp->cs->ds->Prop
 mono:∀{K:ce}{F F':Hp}{c:cs}{s:ds},Sj F F'->rep K F c s->rep K F' c s
def p0(o:Addr->Option HO)(H:Hp):Hp:=λa=>match o a with
 |some u=>some u|none=>H a
def jU{a:Addr}{o:Addr->Option HO}(h:o a=some u):p0 o H a=some u:=by unfold p0;rw[h]
def ej{a:Addr}{o:Addr->Option HO}(h:o a=none):p0 o H a=H a:=by unfold p0;rw[h]
def Sx(S:LS)(B:B0)(c:S.cs):B0:=⟨B.F,p0 (S.ov c) B.H⟩
structure Ln(S:LS)(K:ce)(B:B0)(F:Hp)(c:S.cs)(s:S.ds):Prop where
 st:∀a u,S.ov c a=some u->B.H a=some u
 fr:∀a u,S.ov c a=some u->B.F a=none
 rep:S.rep K F c s
section
variable {S:LS}{K:ce}{c c1 c2:S.cs}{s s1 s2:S.ds}
def Sx.same{B:B0}(h:∀a u,S.ov c a=some u->B.H a=some u):Sx S B c=B:=by
 have:p0 (S.ov c) B.H=B.H:=funext λa=>by cases e:S.ov c a with|none=>exact ej e|some u=>rw[jU e,h a u e]
 show(⟨B.F,p0 (S.ov c) B.H⟩:B0)=B;rw[this]
def Sx.up:Sx S (Sx S B c) c1=Sx S B c1:=by
 have:p0 (S.ov c1) (p0 (S.ov c) B.H)=p0 (S.ov c1) B.H:=funext λa=>by cases e:S.ov c1 a with|some u=>rw[jU e,jU e]|none=>rw[ej e,ej e,ej<|S.YO c1 c a e]
 show(⟨B.F,p0 (S.ov c1)<|p0 (S.ov c) B.H⟩:B0)=⟨B.F,p0 (S.ov c1) B.H⟩;rw[this]
def LS.has{a:Addr}(h:S.ov c1 a=some u)(c:S.cs):∃v,S.ov c a=some v:=by cases e:S.ov c a with|some v=>exact⟨v,rfl⟩|none=>rw[S.YO c c1 a e]at h;cases h
def Ln.free{a:Addr}(l:Ln S K B F c s)(x:Ext B F H)(h:S.ov c1 a=some u):F a=none:=by obtain⟨v,hv⟩:=LS.has h c;exact x.kf (l.fr a v hv)<|l.st a v hv
def Ln.up(l:Ln S K B F c s)(r:S.rep K F1 c1 s1):Ln S K (Sx S B c1) F1 c1 s1:=⟨λa u h=>jU h,λa u h=>by obtain⟨v,hv⟩:=LS.has h c;exact l.fr a v hv,r⟩
def Ln.ext{H:Hp}(l:Ln S K B F c s)(x:Ext ⟨F,H⟩ F' H'):Ln S K B F' c s:=⟨l.st,l.fr,S.mono x.sf l.rep⟩
def Ok.YB(k:Ok K B F H σ ρ)(l:Ln S K B F c s):Ok K (Sx S B c1) F (p0 (S.ov c1) H) σ ρ:=by
 have hf:∀a u,S.ov c1 a=some u->F a=none:=λa u h=>l.free k.toExt h;have ho:∀a,B.H a=none->S.ov c1 a=none:=λa h=>by cases e:S.ov c1 a with|none=>rfl|some u=>obtain⟨v,hv⟩:=LS.has e c;rw[l.st a v hv]at h;cases h
 refine⟨⟨λb u q=>?_,λb u q=>?_,k.sf,λa q=>?_⟩,k.len,k.vals,λi ys h=>?_,k.dist,⟨λi kvs h=>?_,k.So.UG⟩⟩
 ·cases e:S.ov c1 b with
  |some v=>rw[hf b v e]at q;cases q
  |none=>rw[ej e];exact k.sub b u q
 ·have q':p0 (S.ov c1) B.H b=some u:=q;cases e:S.ov c1 b with|some v=>rw[jU e]at q' ⊢;exact q'|none=>rw[ej e]at q' ⊢;exact k.sh b u q'
 ·rcases k.nw a q with z |z;·exact .inl z
  ·refine .inr ?_;show p0 (S.ov c1) B.H a=none;rw[ej<|ho a z];exact z
 ·obtain⟨a,vs,h1,h2,h3,h4,h5⟩:=k.Tj i ys h;have e:=ho a h4;exact⟨a,vs,h1,by rw[ej e];exact h2,h3,by show p0 (S.ov c1) B.H a=none;rw[ej e];exact h4,h5⟩
 ·obtain⟨a,es,h1,h2,h3,h4,h5⟩:=k.So.UC i kvs h;have e:=ho a h4;exact⟨a,es,h1,by rw[ej e];exact h2,h3,by show p0 (S.ov c1) B.H a=none;rw[ej e];exact h4,h5⟩
def Ok.T8(k:Ok K B F H σ ρ)(l:Ln S K B F c s)(x:Ext (Sx S ⟨F,H⟩ c1) F1 H1):Ok K (Sx S B c1) F1 H1 σ ρ:=(k.YB l).ext x
def Ja{H:Hp}(x:Ext (Sx S ⟨F,H⟩ c1) F1 H1)(hf:∀a u,S.ov c1 a=some u->F a=none)(h:S.ov c2 a=some u):F1 a=none:=by obtain⟨v,hv⟩:=LS.has h c1;exact x.kf (hf a v hv)<|jU hv
def Ext.reZ{H:Hp}(x:Ext (Sx S ⟨F,H⟩ c1) F1 H1)(hf:∀a u,S.ov c1 a=some u->F a=none):Ext (Sx S ⟨F,H⟩ c2) F1 (p0 (S.ov c2) H1):=by
 refine⟨λb u z=>?_,λb u z=>?_,x.sf,λa z=>?_⟩
 ·cases e:S.ov c2 b with
  |some v=>rw[Ja x hf e]at z;cases z
  |none=>rw[ej e];exact x.sub b u z
 ·have z':p0 (S.ov c2) H b=some u:=z;cases e:S.ov c2 b with|some v=>rw[jU e]at z' ⊢;exact z'|none=>rw[ej e]at z' ⊢;exact x.sh b u<|by show p0 (S.ov c1) H b=some u;rw[ej<|S.YO c2 c1 b e];exact z'
 ·rcases x.nw a z with y |y;·exact .inl y
  ·refine .inr ?_;have y':p0 (S.ov c1) H a=none:=y;show p0 (S.ov c2) H a=none;cases e:S.ov c1 a with
   |some v=>rw[jU e]at y';cases y'
   |none=>rw[ej e]at y';rw[ej<|S.YO c1 c2 a e];exact y'
def Ext.tZ{H:Hp}(x:Ext (Sx S ⟨F,H⟩ c1) F1 H1)(hf:∀a u,S.ov c1 a=some u->F a=none)(y:Ext (Sx S ⟨F1,H1⟩ c2) F2 H2):Ext (Sx S ⟨F,H⟩ c2) F2 H2:=(x.reZ hf).trans y
def Ext.Y6{H:Hp}(x:Ext ⟨F,H⟩ F1 H1)(h:∀a u,S.ov c a=some u->H a=some u):Ext (Sx S ⟨F,H⟩ c) F1 H1:=by rw[Sx.same (B:=⟨F,H⟩) h];exact x
def Ln.now(l:Ln S K B F c s)(k:Ok K B F H σ ρ):∀a u,S.ov c a=some u->H a=some u:=λa u h=>k.sh _ _<|l.st a u h
def Ln.ff(l:Ln S K B F c s)(k:Ok K B F H σ ρ):∀a u,S.ov c1 a=some u->F a=none:=λa u h=>l.free k.toExt h
end
def Sz(S:LS)(X:Cx)(ρ:cA)(e:Expr)(d:D)(s s':S.ds):Prop:=∀(B:B0)(F H:Hp)(σ:St)(Q:VK)(c:S.cs),Ln S X.K B F c s->Ok X.K B F H σ ρ->(∀v F' H' c',Ext (Sx S ⟨F,H⟩ c') F' H'->S.rep X.K F' c' s'->Rep X.K F' v d->Q v H')->wE X e σ H Q
def IL(S:LS)(X:Cx)(ρ:cA)(es:rH)(ds:aQ)(s s':S.ds):Prop:=VG es/\∀(B:B0)(F H:Hp)(σ:St)(Q:dw->Hp->Prop)(c:S.cs),Ln S X.K B F c s->Ok X.K B F H σ ρ->(∀vs F' H' c',Ext (Sx S ⟨F,H⟩ c') F' H'->S.rep X.K F' c' s'->Sh X.K F' vs ds->Q vs H')->wA X es σ H Q
def SE(S:LS)(X:Cx)(ρ:cA)(e:Expr)(b:Bool)(s s':S.ds):Prop:=∀(B:B0)(F H:Hp)(σ:St)(Q:Bool->Hp->Prop)(c:S.cs),Ln S X.K B F c s->Ok X.K B F H σ ρ->(∀F' H' c',Ext (Sx S ⟨F,H⟩ c') F' H'->S.rep X.K F' c' s'->Q b H')->wT X e σ H Q
def CH(S:LS)(K:ce)(B:B0)(F₀:Hp)(E:kP)(s':S.ds):Out->Prop|.nx ρ=>∀F H σ c,Ok K (Sx S B c) F H σ ρ->S.rep K F c s'->Sj F₀ F->E.nx σ H|.rt d=>∀v F H c,Ext (Sx S B c) F H->S.rep K F c s'->Rep K F v d->E.rt v H
def Tx(S:LS)(X:Cx)(ρ:cA)(T1:List Stmt)(o:Out)(s s':S.ds):Prop:=∀(B:B0)(F H:Hp)(σ:St)(E:kP)(c:S.cs),Ln S X.K B F c s->Ok X.K B F H σ ρ->CH S X.K B F E s' o->wSs X T1 E σ H
def Ur(S:LS)(X:Cx)(ρ:cA)(st:Stmt)(o:Out)(s s':S.ds):Prop:=∀(B:B0)(F H:Hp)(σ:St)(E:kP)(c:S.cs),Ln S X.K B F c s->Ok X.K B F H σ ρ->CH S X.K B F E s' o->wS X st E σ H
section
variable {S:LS}{st:Stmt}{bJ:List Stmt}{s s1 s2 s':S.ds}{ds:aQ}
def Se.z(h:Se X ρ e d):Sz S X ρ e d s s:=λB F H σ Q c l k w=>h B F H σ Q k λv F' H' x r=>w v F' H' c (x.Y6<|l.now k) (S.mono x.sf l.rep) r
def S3.z(h:S3 X ρ es ds):IL S X ρ es ds s s:=⟨h.1,λB F H σ Q c l k w=>h.2 B F H σ Q k λv F' H' x r=>w v F' H' c (x.Y6<|l.now k) (S.mono x.sf l.rep) r⟩
def Sg.z(h:Sg X ρ e r):SE S X ρ e r s s:=λB F H σ Q c l k w=>h B F H σ Q k λF' H' x=>w F' H' c (x.Y6<|l.now k)<|S.mono x.sf l.rep
def Sz.eq{d':D}(h:Sz S X ρ e d s s')(q:d=d'):Sz S X ρ e d' s s':=q▸h
def SE.eq{r':Bool}(h:SE S X ρ e r s s')(q:r=r'):SE S X ρ e r' s s':=q▸h
def bS(h1:Sz S X ρ e d s s1)(h2:IL S X ρ es ds s1 s')(hs:Pl e:=by intro _ _;rfl):IL S X ρ (e::es) (d::ds) s s':=⟨⟨hs,h2.1⟩,λB F H σ Q c l k w=>.mk λpos pins st I=>ck aR pZ (hs _ _) pos pins st σ H Q I (h1 B F H σ _ c l k λv F1 H1 c1 x1 r1 rv=>h2.2 (Sx S B c1) F1 H1 σ _ c1 (l.up r1) (k.T8 l x1) λvs F2 H2 c2 x2 r2 Ze=>w _ F2 H2 c2 (x1.tZ (l.ff k) x2) r2<|.cons (rv.mono x2.sf) Ze)⟩
def Fg(ha:Sz S X ρ a da s s1)(hb:Sz S X ρ b db s1 s'){R:V->V->Hp->Prop}{c:S.cs}(l:Ln S X.K B F c s)(k:Ok X.K B F H σ ρ)(h:∀x y F' H' c',Ext (Sx S ⟨F,H⟩ c') F' H'->S.rep X.K F' c' s'->Rep X.K F' x da->Rep X.K F' y db->R x y H'):wE X a σ H λx H1=>wE X b σ H1 λy H2=>R x y H2:=ha B F H σ _ c l k λx F1 H1 c1 x1 r1 rv=>hb (Sx S B c1) F1 H1 σ _ c1 (l.up r1) (k.T8 l x1) λy F2 H2 c2 x2 r2 ry=>h x y F2 H2 c2 (x1.tZ (l.ff k) x2) r2 (rv.mono x2.sf) ry
def Rep.rd{X:Cx}(sub:Sj F H)(r:Rep X.K F v d):VM X H v (fS d):=λhs H2 s2 pins σ s u I ru=>r.reads I (sub.trans s2) ru hs
def Oe{r:Bool}(t:At X N sc)(ha:Sz S X ρ a da s s1)(hb:Sz S X ρ b db s1 s')(sp:SeqAt.shaped (fS da)=true)(sq:SeqAt.shaped (fS db)=true)(hr:(fS da).eqv (fS db)=r):SE S X ρ (.Compare a [.Eq] [b] pos) r s s':=λB F H σ Q c l k w=>.mk λpins st I=>fY (Eo t sp sq) aR aR (dF _ (by decide)<|by decide) pins st σ H Q I (Fg ha hb l k λx y F' H' c' x' r' rx ry=>⟨rx.rd x'.sub,ry.rd x'.sub,r,by rw[hr],w F' H' c' x' r'⟩)
def Od{r:Bool}(t:At X N sc)(ha:Sz S X ρ a da s s1)(hb:Sz S X ρ b (.tup xs) s1 s')(sp:(fS da).canLay0=true)(sd:(fS da).depth<=62)(sq:PyData.canLayAll0 (Sq xs)=true)(he:((Sq xs).any λy=>PyData.eqv y<|fS da)=r)(hm:behindInMarks .In b=false:=by rfl):SE S X ρ (.Compare a [.In] [b] pos) r s s':=λB F H σ Q c l k w=>.mk λpins st I=>fY (Ah t sp sd sq) aR aR hm pins st σ H Q I (Fg ha hb l k λx y F' H' c' x' r' rx ry=>⟨rx.rd x'.sub,(ry.rd x'.sub:VM X H' y (.tuple<|Sq xs)),r,by rw[he],w F' H' c' x' r'⟩)
def D8(ha:Sz S X ρ a (.int i) s s1)(hb:Sz S X ρ b (.int j) s1 s'):SE S X ρ (.Compare a [.Lt] [b] pos) (decide<|i<j) s s':=λB F H σ Q c l k w=>.mk λpins st I=>fY Lf aR aR (dF _ (by decide)<|by decide) pins st σ H Q I (Fg ha hb l k λx y F' H' c' x' r' rx ry=>by cases rx;cases ry;exact⟨i,j,rfl,rfl,_,rfl,w F' H' c' x' r'⟩)
def Nl(hc:SE S X ρ cd true s s1)(ha:Sz S X ρ a d s1 s'):Sz S X ρ (.IfExp cd a b pos) d s s':=λB F H σ Q c l k w=>.mk λpins st I=>si lO aR aR pins st σ H Q I (hc B F H σ _ c l k λF1 H1 c1 x1 r1=>by rw[ax rfl];exact ha (Sx S B c1) F1 H1 σ _ c1 (l.up r1) (k.T8 l x1) λv F2 H2 c2 x2 r2 rv=>w v F2 H2 c2 (x1.tZ (l.ff k) x2) r2 rv)
def Nm(hc:SE S X ρ cd false s s1)(hb:Sz S X ρ b d s1 s'):Sz S X ρ (.IfExp cd a b pos) d s s':=λB F H σ Q c l k w=>.mk λpins st I=>si lO aR aR pins st σ H Q I (hc B F H σ _ c l k λF1 H1 c1 x1 r1=>by rw[av ay];exact hb (Sx S B c1) F1 H1 σ _ c1 (l.up r1) (k.T8 l x1) λv F2 H2 c2 x2 r2 rv=>w v F2 H2 c2 (x1.tZ (l.ff k) x2) r2 rv)
def v4{X:Cx}{c:S.cs}(l:Ln S X.K B F c s)(k:Ok X.K B F H σ ρ)(q:CH S X.K B F E s o):(∃ρ',o=.nx ρ'/\UB X.K B F E o)\/(∃d,o=.rt d/\UB X.K ⟨F,B.H⟩ F E o):=by cases o with|nx ρ'=>exact .inl ⟨ρ',rfl,λF' H' σ' k' s'=>q F' H' σ' c (by rw[Sx.same l.st];exact k') (S.mono s' l.rep) s'⟩|rt d=>exact .inr ⟨d,rfl,λv F' H' x r=>q v F' H' c (by rw[Sx.same l.st];exact k.toExt.XZ x) (S.mono x.sf l.rep) r⟩
def Sf.z(h:Sf X ρ T1 o):Tx S X ρ T1 o s s:=λB F H σ E c l k q=>by
 rcases v4 l k q with⟨_,_,z⟩ |⟨_,_,z⟩;·exact h B F H σ E k z
 ·exact h ⟨F,B.H⟩ F H σ E k.now z
def SQ.z(h:SQ X ρ st o):Ur S X ρ st o s s:=λB F H σ E c l k q=>by
 rcases v4 l k q with⟨_,_,z⟩ |⟨_,_,z⟩;·exact h B F H σ E k z
 ·exact h ⟨F,B.H⟩ F H σ E k.now z
def vZ{X:Cx}{c:S.cs}(q:CH S X.K B F E s' o)(sf:Sj F F1):CH S X.K (Sx S B c) F1 E s' o:=by
 cases o with
 |nx ρ'=>exactλF' H' σ' c' k r s'=>q F' H' σ' c' (by rw[Sx.up]at k;exact k) r<|sf.trans s'
 |rt d=>exactλv F' H' c' x r rv=>q v F' H' c' (by rw[Sx.up]at x;exact x) r rv
def cy(h1:Ur S X ρ st (.nx ρ1) s s1)(h2:Tx S X ρ1 bJ o s1 s'):Tx S X ρ (st::bJ) o s s':=λB F H σ E c l k q=>.mk λpins w I=>gP vW dz pins w σ H E I (h1 B F H σ _ c l k λF1 H1 σ1 c1 k1 r1 sf=>h2 (Sx S B c1) F1 H1 σ1 E c1 (l.up r1) k1<|vZ q sf)
def dU(h1:Ur S X ρ st o s s'):Tx S X ρ [st] o s s':=λB F H σ E c l k q=>.mk λpins w I=>pL vW pins w σ H E I<|h1 B F H σ E c l k q
def vt:Tx S X ρ [] (.nx ρ) s s:=Sf.z bQ
def lJ{pos:Pos}[Vh X](t:At X N sc)(i:Nat)(h:Sz S X ρ e d s s')(hi:N[i]?=some x:=by rfl)(hx:nJ sc x=true:=by rfl)(hs:swapsWith e (some<|.Name x pos') pos.line X.env=pure false:=by rfl):Ur S X ρ (.Assign [.Name x pos'] e pos) (.nx<|ρ.set i<|.val d) s s':=λB F H σ E c l k w=>.mk λpins q I=>oz (i:=i) t.nd (t.ix hi) (t.loc hx) aR hs Gn pins q σ H E I (h B F H σ _ c l k λv F' H' c1 x' r rv=>w F' H' _ c1 ((k.T8 l x').Ta i rv) r x'.sf)
def vq(h:Sz S X ρ e d s s'):Ur S X ρ (.Return (some e) pos) (.rt d) s s':=λB F H σ E c l k w=>.mk λpins q I=>vX aR pins q σ H E I (h B F H σ _ c l k λv F' H' c1 x' r rv=>w v F' H' c1 (k.T8 l x').toExt r rv)
def dj{pos:Pos}(h:Sz S X ρ e d s s')(V7:swapsWith e none pos.line X.env=pure false:=by rfl):Ur S X ρ (.Expr e pos) (.nx ρ) s s':=λB F H σ E c l k w=>.mk λpins q I=>m9 aR V7 pins q σ H E I (h B F H σ _ c l k λv F' H' c1 x' r rv=>w F' H' σ c1 (k.T8 l x') r x'.sf)
def zw(hc:SE S X ρ cd true s s1)(h:Tx S X ρ ss o s1 s'):Ur S X ρ (.If cd ss us pos) o s s':=λB F H σ E c l k w=>.mk λpins q I=>uu lO dz dz pins q σ H E I (hc B F H σ _ c l k λF1 H1 c1 x1 r1=>by rw[ax rfl];exact h (Sx S B c1) F1 H1 σ E c1 (l.up r1) (k.T8 l x1)<|vZ w x1.sf)
def tj(hc:SE S X ρ cd false s s1)(h:Tx S X ρ us o s1 s'):Ur S X ρ (.If cd ss us pos) o s s':=λB F H σ E c l k w=>.mk λpins q I=>uu lO dz dz pins q σ H E I (hc B F H σ _ c l k λF1 H1 c1 x1 r1=>by rw[av ay];exact h (Sx S B c1) F1 H1 σ E c1 (l.up r1) (k.T8 l x1)<|vZ w x1.sf)
inductive Uz(S:LS)(X:Cx)(cd:Expr)(body:List Stmt):Nat->cA->S.ds->cA->S.ds->Prop where
 |stop {ρ:cA} {s s1:S.ds}:SE S X ρ cd false s s1->Uz S X cd body 0 ρ s ρ s1
 |step {n:Nat} {ρ ρ1 ρ2:cA} {s s1 s2 s3:S.ds}:SE S X ρ cd true s s1->Tx S X ρ body (.nx ρ1) s1 s2->Uz S X cd body n ρ1 s2 ρ2 s3->Uz S X cd body (n+1) ρ s ρ2 s3
def vp(t:At X N sc)(h:∃n,Uz S X cd body n ρ s ρ' s'):Ur S X ρ (.While cd body [] pos) (.nx ρ') s s':=λB F H σ E c l k q=>.mk λpins w I=>BO t.pass lO dz pins w σ H E I (by
  obtain⟨n,h⟩:=h;refine⟨λm σ H=>∃ρ1 F1 c1 s1,Ok X.K (Sx S B c1) F1 H σ ρ1/\S.rep X.K F1 c1 s1/\Sj F F1/\Uz S X cd body m ρ1 s1 ρ' s',⟨n,ρ,F,c,s,by rw[Sx.same l.st];exact k,l.rep,.refl _,h⟩,?_⟩;rintro m σ H ⟨ρ1,F1,c1,s1,k1,r1,sf,run⟩;have l1:Ln S X.K (Sx S B c1) F1 c1 s1:=l.up r1;cases run with
  |stop hc=>refine hc (Sx S B c1) F1 H σ _ c1 l1 k1 λF2 H2 c2 x2 r2=>?_;rw[av ay];have k2:=k1.T8 l1 x2;rw[Sx.up]at k2;exact q F2 H2 σ c2 k2 r2<|sf.trans x2.sf
  |@step n0 _ ρa _ _ sa sb _ hc hb r=>refine hc (Sx S B c1) F1 H σ _ c1 l1 k1 λF2 H2 c2 x2 r2=>?_;rw[ax rfl];have k2:=k1.T8 l1 x2;rw[Sx.up]at k2;refine⟨λσ' H'=>∃Va c'',Ok X.K (Sx S B c'') Va H' σ' ρa/\S.rep X.K Va c'' sb/\Sj F Va,λσ' H' ⟨Va,c'',Xx,r'',UO⟩=>⟨_,fB _,_,Va,c'',_,Xx,r'',UO,r⟩,hb (Sx S B c2) F2 H2 σ _ c2 (l.up r2) k2 λF3 H3 σ3 c3 k3 r3 s3=>⟨F3,c3,?_,r3,sf.trans (x2.sf.trans s3)⟩⟩;rw[Sx.up]at k3;exact k3)
def Tx.weak(h:Tx S X ρ T1 (.nx ρ1) s s')(w:U4 ρ1 ρ2):Tx S X ρ T1 (.nx ρ2) s s':=λB F H σ E c l k pq=>h B F H σ E c l k λF' H' σ' ws k' r sf=>pq F' H' σ' ws (k'.weak w) r sf
end
structure jl where
 C:Addr
 p:Addr
 dx:Addr
 q:Addr
 l:Addr
 toks:cH
def HQ(r:jl)(n:Int):HO:=.ins r.C r.dx [("tokens",.ref r.l),("done",.int n),("steps",.ref r.q)]
def Sk(r:jl):LS where
 cs:=Int×dw
 ds:=Int×aQ
 ov c a:=if a=r.p then some (HQ r c.1)else if a=r.q then some (.lst c.2)else none
 YO c c' a h:=by
  by_cases h1:a=r.p;·rw[ax h1]at h;cases h
  ·rw[av h1]at h ⊢;by_cases h2:a=r.q;·rw[ax h2]at h;cases h
   ·rw[av h2]
 rep K F c s:=c.1=s.1/\Sh K F c.2 s.2/\F r.l=some (.lst<|r.toks.map V.str)
 mono:=λsf h=>⟨h.1,h.2.1.mono sf,sf _ _ h.2.2⟩
structure gH(K:ce)(r:jl):Prop where
 cls:WL K r.C
 n1:SK K r.C "tokens"
 n2:SK K r.C "done"
 n3:SK K r.C "steps"
 ne:r.q≠r.p
def yx{K:ce}:∀ts:cH,Sh K F (ts.map V.str) (ts.map D.str)|[]=>.nil|t::ts=>.cons (.str t)<|yx ts
def Sk.WJ{c:Int×dw}:(Sk r).ov c r.p=some (HQ r c.1):=ax rfl
def Sk.Xh{r:jl}(ok:r.q≠r.p){c:Int×dw}:(Sk r).ov c r.q=some (.lst c.2):=by show(if r.q=r.p then _ else if r.q=r.q then _ else _)=_;rw[av ok,ax rfl]
def FZ{i:Nat}{Q:VK}{ρ:cA}(t:At X N sc)(hr:ρ[i]?=some (.val<|.adr q))(hN:N[i]?=some x)(hv:fO sc x=true)(hx:cZ x=true)(k:Ok X.K B F H σ ρ)(h:Q (.ref q) H):wE X (.Name x py) σ H Q:=.mk λpins s I=>by obtain⟨v,h1,h2⟩:=k.vals i _ hr;cases h2;exact tG t hN hv hx pins s σ H Q I ⟨_,h1,h⟩
def se{ρ:cA}(t:At X N sc)(ok:gH X.K r)(i:Nat){s:Int×aQ}(hr:ρ[i]?=some (.val<|.adr r.p))(hN:N[i]?=some x:=by rfl)(hv:fO sc x=true:=by rfl)(hx:cZ x=true:=by rfl)(hb:attributeBase (.Name x py) "tokens" X.env (eval (.Name x py) X.env)=eval (.Name x py) X.env:=by rfl):Sz (Sk r) X ρ (.Attribute (.Name x py) "tokens" pos) (.lst<|r.toks.map D.str) s s:=λB F H σ Q c l k w=>.mk λpins st I=>v8 aR hb pins st σ H Q I<|FZ t hr hN hv hx k ⟨r.p,r.C,r.dx,_,.ref r.l,rfl,l.now k _ _ Sk.WJ,ok.cls,ok.n1,rfl,w _ F H c ((Ext.refl k.sub).Y6<|l.now k) l.rep<|.lst l.rep.2.2<|yx _⟩
def sg{ρ:cA}(t:At X N sc)(ok:gH X.K r)(i:Nat){s:Int×aQ}(hr:ρ[i]?=some (.val<|.adr r.p))(hN:N[i]?=some x:=by rfl)(hv:fO sc x=true:=by rfl)(hx:cZ x=true:=by rfl)(hb:attributeBase (.Name x py) "done" X.env (eval (.Name x py) X.env)=eval (.Name x py) X.env:=by rfl):Sz (Sk r) X ρ (.Attribute (.Name x py) "done" pos) (.int s.1) s s:=λB F H σ Q c l k w=>.mk λpins st I=>v8 aR hb pins st σ H Q I<|FZ t hr hN hv hx k ⟨r.p,r.C,r.dx,_,.int c.1,rfl,l.now k _ _ Sk.WJ,ok.cls,ok.n2,rfl,w _ F H c ((Ext.refl k.sub).Y6<|l.now k) l.rep<|by rw[l.rep.1];exact .int _⟩
def MD{H:Hp}{r:jl}{c c':Int×dw}(ok:r.q≠r.p)(h:∀a u,(Sk r).ov c a=some u->H a=some u)(hc:c'.2=c.2):p0 ((Sk r).ov c') H=c6 H r.p (HQ r c'.1):=funext λa=>by
 by_cases h1:a=r.p;·subst h1;rw[jU Sk.WJ,aI]
 ·rw[aC h1];by_cases h2:a=r.q;·subst h2;rw[jU<|Sk.Xh ok,h _ _<|Sk.Xh ok,hc]
  ·exact ej (show(if a=r.p then _ else if a=r.q then _ else _)=_ by rw[av h1,av h2])
def MB{H:Hp}{r:jl}{c c':Int×dw}(ok:r.q≠r.p)(h:∀a u,(Sk r).ov c a=some u->H a=some u)(hc:c'.1=c.1):p0 ((Sk r).ov c') H=c6 H r.q (.lst c'.2):=funext λa=>by
 by_cases h1:a=r.p;·subst h1;rw[jU Sk.WJ,aC<|cV ok,h _ _ Sk.WJ,hc]
 ·by_cases h2:a=r.q;·subst h2;rw[jU<|Sk.Xh ok,aI]
  ·rw[aC h2];exact ej (show(if a=r.p then _ else if a=r.q then _ else _)=_ by rw[av h1,av h2])
def JA{ρ:cA}(t:At X N sc)(ok:gH X.K r)(i:Nat)(hr:ρ[i]?=some (.val<|.adr r.p))(he:Se X ρ e (.int m))(hN:N[i]?=some x:=by rfl)(hv:fO sc x=true:=by rfl)(hx:cZ x=true:=by rfl):Ur (Sk r) X ρ (.AugAssign (.Attribute (.Name x py) "done" ps) .Add e pos) (.nx ρ) (n,xs) (n+m,xs):=λB F H σ E c l k w=>.mk λpins st I=>Fu (op:=.Add) (rd:=QM) aR aR (λpins s σ H x y u v Q I rx ry h=>by obtain⟨i,j,rfl,rfl,q⟩:=h;obtain⟨t1,rfl⟩:=rx;obtain⟨t2,rfl⟩:=ry;exact iadd_int ⟨.int<|i+j,H,I.tok _,⟨_,rfl⟩,q⟩) pins st σ H E I<|FZ t hr hN hv hx k ⟨r.p,r.C,r.dx,_,.int c.1,rfl,l.now k _ _ Sk.WJ,ok.cls,ok.n2,rfl,he B F H σ _ k λv F1 H1 x1 r1=>by cases r1;have k1:=k.ext x1;have l1:Ln (Sk r) X.K B F1 c (n,xs):=l.ext x1;refine⟨c.1,m,rfl,rfl,r.dx,_,l1.now k1 _ _ Sk.WJ,fK rfl,?_⟩;have e1:c.1=n:=l.rep.1;have hq:=w F1 (p0 ((Sk r).ov (c.1+m,c.2)) H1) σ (c.1+m,c.2) (k1.YB l1) ⟨by rw[e1],l1.rep.2⟩ x1.sf;rw[MD (c:=c) (c':=(c.1+m,c.2)) ok.ne (l1.now k1) rfl]at hq;exact hq⟩
def m7{ρ:cA}{pos:Pos}{apos:Pos}{Sr:Pos}(t:At X N sc)(ok:gH X.K r)(i:Nat){s s1:Int×aQ}(hr:ρ[i]?=some (.val<|.adr r.p))(he:Sz (Sk r) X ρ e d s s1)(hz:s1.2.length<sizeLine)(hN:N[i]?=some x:=by rfl)(hv:fO sc x=true:=by rfl)(hx:cZ x=true:=by rfl)(hb:attributeBase (.Name x py) "steps" X.env (eval (.Name x py) X.env)=eval (.Name x py) X.env:=by rfl)(Yx:attributeBase (.Attribute (.Name x py) "steps" ps) "append" X.env (eval (.Attribute (.Name x py) "steps" ps) X.env)=eval (.Attribute (.Name x py) "steps" ps) X.env:=by rfl)(hs:Fe e [] X.env:=by rfl)(S4:(apos.endLine==Sr.line)=true:=by rfl)(U2:vv Sr [] X.env:=by rfl)(Vl:Jc Sr [e] X.env:=by rfl)(V7:swapsWith (.Call (.Attribute (.Attribute (.Name x py) "steps" ps) "append" apos) [e] [] Sr) none pos.line X.env=pure false:=by rfl):Ur (Sk r) X ρ (.Expr (.Call (.Attribute (.Attribute (.Name x py) "steps" ps) "append" apos) [e] [] Sr) pos) (.nx ρ) s (s1.1,s1.2++[d]):=λB F H σ E c l k w=>.mk λpins st I=>m9 (Hm dL kl kj pO (v8 aR hb) (ck aR eM hs) Yx Vl S4 hs U2) V7 pins st σ H E I<|FZ t hr hN hv hx k ⟨r.p,r.C,r.dx,_,.ref r.q,rfl,l.now k _ _ Sk.WJ,ok.cls,ok.n3,rfl,.inl ⟨rfl,_,Ts.of<|l.now k _ _<|Sk.Xh ok.ne⟩,he B F H σ _ c l k λv F1 H1 c1 x1 r1 rv=>by have k1:=k.T8 l x1;have l1:Ln (Sk r) X.K (Sx (Sk r) B c1) F1 c1 s1:=l.up r1;refine⟨r.q,c1.2,v,rfl,rfl,l1.now k1 _ _<|Sk.Xh ok.ne,by rw[r1.2.1.length];exact hz,?_⟩;have k2:Ok X.K (Sx (Sk r) (Sx (Sk r) B c1) (c1.1,c1.2++[v])) F1 (p0 ((Sk r).ov (c1.1,c1.2++[v])) H1) σ ρ:=k1.YB l1;have e1:Sx (Sk r) (Sx (Sk r) B c1) (c1.1,c1.2++[v])=Sx (Sk r) B (c1.1,c1.2++[v]):=Sx.up (S:=Sk r);rw[e1,MB (c:=c1) (c':=(c1.1,c1.2++[v])) ok.ne (l1.now k1) rfl]at k2;exact w F1 _ σ (c1.1,c1.2++[v]) k2 ⟨r1.1,r1.2.1.append<|.cons rv .nil,r1.2.2⟩ x1.sf⟩
section
variable {S:LS}{s s1 s':S.ds}
def AB(t:At X N sc)(bl:mf X sc x (.builtin "len"))(ha:Sz S X ρ e (.lst xs) s s')(Ut:Pl e:=by intro _ _;rfl):Sz S X ρ (.Call (.Name x p) [e] [] pos) (.int xs.length) s s':=λB F H σ Q c l k w=>.mk λpins st I=>iM sN (dS t bl.g) bl.m bl.v (ck aR eM<|Ut _ _) bl.n bl.d (Ut _ _) rfl pins st σ H Q I (ha B F H σ _ c l k λv F1 H1 c1 x1 r1 rv=>by cases rv with|lst hf rl=>exact⟨_,_,rfl,.inl<|Ts.of<|x1.sub _ _ hf,by rw[rl.length];exact w _ F1 H1 c1 x1 r1<|.int _⟩)
def Nk(ha:Sz S X ρ a (.lst xs) s s1)(hb:Sz S X ρ b (.int i) s1 s')(h:kS xs i=some d)(hs:sV b:=by intro _ _;rfl):Sz S X ρ (.Subscript a b pos) d s s':=λB F H σ Q c l k w=>.mk λpins st I=>Ex EG aR aR hs pins st σ H Q I (Fg ha hb l k λx y F' H' c' x' r' rx ry=>by cases ry;cases rx with|lst hf rl=>obtain⟨z,h1,h2⟩:=rl.at h;exact⟨_,_,i,z,rfl,rfl,Ts.of<|x'.sub _ _ hf,h1,w z F' H' c' x' r' h2⟩)
end
def Oy(K:ce)(C:cH->aQ->Int×aQ->D->Int×aQ->Prop):Sp:=λvs H Q _=>∃(r:jl)(F:Hp)(ds:aQ)(d:D)(c:Int×dw)(s s':Int×aQ),Sj F H/\gH K r/\(∀a u,(Sk r).ov c a=some u->H a=some u)/\(∀a u,(Sk r).ov c a=some u->F a=none)/\(Sk r).rep K F c s/\Sh K F vs (.adr r.p::ds)/\C r.toks ds s d s'/\∀v F' H' c',Ext (Sx (Sk r) ⟨F,H⟩ c') F' H'->(Sk r).rep K F' c' s'->Rep K F' v d->Q v H'
def Si(X:Cx)(x:Str)(C:cH->aQ->Int×aQ->D->Int×aQ->Prop):Prop:=∃(f:Addr)(fd:FuncData)(ps:cH)(k:Nat),dQ X.prog X.w X.K X.mg X.base ja k f fd ps (Oy X.K C)/\SR k X.A/\X.mg x=some (.ref f)/\PySem.W.keepIn X.K (.ref f)=true/\Binds X.K fd ps []
section
variable {ds:aQ}{s s1 s':Int×aQ}
def Nc{P:Program}(Ti:P.given.tree=none){w:World}{K:ce}{mg:rG}{base:Heap}{x qual:Str}{st:Stmt}{f:Addr}{fd:FuncData}{N ps:cH}{k:Nat}{C:cH->aQ->Int×aQ->D->Int×aQ->Prop}(F:V2 K x qual st f fd)(S:aJ N ps (ai st))(len:∀ts ds s d s',C ts ds s d s'->ds.length+1=ps.length)(body:∀X,DefX P w K mg base k N (ai st) X->∀(r:jl),gH X.K r->∀ds s d s',C r.toks ds s d s'->Tx (Sk r) X (.val (.adr r.p)::ds.map Sl.val++List.replicate (N.length-(ds.length+1)) Sl.un) (aD st) (.rt d) s s'\/(d=.Sy/\∃ρ',Tx (Sk r) X (.val (.adr r.p)::ds.map Sl.val++List.replicate (N.length-(ds.length+1)) Sl.un) (aD st) (.nx ρ') s s')):dQ P w K mg base ja (k+1) f fd ps (Oy K C):=by
 refine F.ok S (λvs H Q E h=>?_) λS8 A outer s H vs Q E hr h=>?_;·obtain⟨r,F',ds,d,c,s,s',sub,ok,h1,h2,h3,rv,hC,q⟩:=h;rw[rv.length];exact len r.toks ds s d s' hC
 ·obtain⟨r,F',ds,d,c,s1,s',sub,ok,h1,h2,h3,rv,hC,q⟩:=h;refine⟨_,dz,?_⟩;have hx:DefX P w K mg base k N (ai st) (mI ja P w K mg base N qual (ai st) f S8 A outer s H E).U7:=⟨⟨rfl,rfl,rfl,S.nd,rfl,hr.units,hr.UE,Ti,⟨_,_,rfl,S.gen,S.co,rfl,rfl⟩⟩,rfl,rfl,rfl,rfl,rfl,hr,⟨λ_=>rfl⟩,rfl,rfl⟩;have hk:Ok K ⟨F',H⟩ F' H (start N vs) (.val (.adr r.p)::ds.map Sl.val++List.replicate (N.length-(ds.length+1)) Sl.un):=by unfold start;rw[rv.length];exact iN sub rv _
  rcases body _ hx r ok ds s1 d s' hC with hb |⟨rfl,ρ',hb⟩;·exact hb ⟨F',H⟩ F' H _ _ c ⟨h1,h2,h3⟩ hk λv F2 H2 c2 x2 r2 rv=>q v F2 H2 c2 x2 r2 rv
  ·exact hb ⟨F',H⟩ F' H _ _ c ⟨h1,h2,h3⟩ hk λF2 H2 σ2 c2 k2 r2 s2=>q .Sy F2 H2 c2 k2.toExt r2 .Sy
def DefX.XQ{K:ce}{x:Str}{C:cH->aQ->Int×aQ->D->Int×aQ->Prop}(h:DefX P w K mg base k N sc X)(F:dQ P w K mg base ja j f fd ps (Oy K C))(hj:j<=k)(hm:mg x=some (.ref f))(hk:PySem.W.keepIn K (.ref f)=true)(hb:Binds K fd ps []):Si X x C:=by obtain⟨h0,rfl,rfl,rfl,rfl,rfl,hr,_⟩:=h;exact⟨f,fd,ps,j,F,hr.mono hj,hm,hk,hb⟩
def dC(t:At X N sc)(ok:gH X.K r){C:cH->aQ->Int×aQ->D->Int×aQ->Prop}(h:Si X x C)(ha:IL (Sk r) X ρ (e::es) (.adr r.p::ds) s s1)(hC:C r.toks ds s1 d s')(hg:uY sc x:=by rfl)(T7:qF x:=by rfl):Sz (Sk r) X ρ (.Call (.Name x p) (e::es) [] pos) d s s':=λB F0 H σ Q c l k w=>.mk λpins st I=>by obtain⟨f,fd,ps,kk,F,Wr,hm,hk,hb⟩:=h;have pz:ia ja X E0:=qx;refine j8 F Wr (dS t hg) hm hk hb .nil pz pZ T7 (ha.1.1 _ _) (VG.any ha.1.2) pins st σ H Q I (ha.2 B F0 H σ _ c l k λvs F1 H1 c1 x1 r1 rv=>?_);have k1:=k.T8 l x1;have l1:Ln (Sk r) X.K (Sx (Sk r) B c1) F1 c1 s1:=l.up r1;refine⟨r,F1,ds,d,c1,s1,s',k1.sub,ok,l1.now k1,l1.ff k1,r1,by rw[bC];exact rv,hC,λv F2 H2 c2 x2 r2 Xt=>w v F2 H2 c2 (x1.tZ (l.ff k) x2) r2 Xt⟩
end
section
variable {S:LS}{K:ce}{c c1:S.cs}
def Ok.pin(k:Ok K B F H σ ρ)(hb:∀a u,S.ov c a=some u->B.H a=none)(hh:∀a u,S.ov c a=some u->H a=some u)(hf:∀a u,S.ov c a=some u->F a=none)(ho:∀(i:Nat)xs a,ρ[i]?=some (.own xs)->σ[i]?=some (some<|.ref a)->S.ov c a=none)(hd:∀(i:Nat)xs a,ρ[i]?=some (.TQ xs)->σ[i]?=some (some<|.ref a)->S.ov c a=none):Ok K (Sx S B c) F H σ ρ:=by
 refine⟨⟨k.sub,λb u q=>?_,k.sf,λa q=>?_⟩,k.len,k.vals,λi ys h=>?_,k.dist,⟨λi kvs h=>?_,k.So.UG⟩⟩
 ·have q':p0 (S.ov c) B.H b=some u:=q;cases e:S.ov c b with
  |some v=>rw[jU e]at q';cases q';exact hh b _ e
  |none=>rw[ej e]at q';exact k.sh b u q'
 ·rcases k.nw a q with z |z;·exact .inl z
  ·refine .inr ?_;show p0 (S.ov c) B.H a=none;cases e:S.ov c a with|some v=>exact absurd (hf a v e) q|none=>rw[ej e];exact z
 ·obtain⟨a,vs,h1,h2,h3,h4,h5⟩:=k.Tj i ys h;exact⟨a,vs,h1,h2,h3,by show p0 (S.ov c) B.H a=none;rw[ej<|ho i ys a h h1];exact h4,h5⟩
 ·obtain⟨a,es,h1,h2,h3,h4,h5⟩:=k.So.UC i kvs h;exact⟨a,es,h1,h2,h3,by show p0 (S.ov c) B.H a=none;rw[ej<|hd i kvs a h h1];exact h4,h5⟩
def Ext.XY(x:Ext (Sx S B c1) F H)(hb:∀a u,S.ov c1 a=some u->B.H a=none):Ext B F H:=by
 refine⟨x.sub,λb u q=>?_,x.sf,λa q=>?_⟩
 ·refine x.sh b u ?_;show p0 (S.ov c1) B.H b=some u;cases e:S.ov c1 b with
  |some v=>rw[hb b v e]at q;cases q
  |none=>rw[ej e];exact q
 ·rcases x.nw a q with z |z;·exact .inl z
  ·refine .inr ?_;have z':p0 (S.ov c1) B.H a=none:=z;cases e:S.ov c1 a with
   |some v=>rw[jU e]at z';cases z'
   |none=>rw[ej e]at z';exact z'
end
def Rj(K:ce)(F H F' H':Hp)(r:jl):Prop:=gH K r/\Ext ⟨F,H⟩ F' H'/\H r.p=none/\H r.q=none/\H' r.p=some (HQ r 0)/\H' r.q=some (.lst [])/\F' r.p=none/\F' r.q=none/\F' r.l=some (.lst<|r.toks.map V.str)
def Jm(K:ce)(C:aQ->cH->Prop):Sp:=λvs H Q _=>∃F ds toks,Sj F H/\Sh K F vs ds/\C ds toks/\∀r F' H',r.toks=toks->Rj K F H F' H' r->Q (.ref r.p) H'
def Ud(X:Cx)(x:Str)(C:aQ->cH->Prop):Prop:=∃(f:Addr)(fd:FuncData)(ps:cH)(k:Nat),dQ X.prog X.w X.K X.mg X.base ja k f fd ps (Jm X.K C)/\SR k X.A/\X.mg x=some (.ref f)/\PySem.W.keepIn X.K (.ref f)=true/\Binds X.K fd ps []
def zq(X:Cx)(ρ:cA)(T1:List Stmt)(toks:cH):Prop:=∀(B:B0)(F H:Hp)(σ:St)(E:kP),Ok X.K B F H σ ρ->(∀r F' H',r.toks=toks->gH X.K r->Ext B F' H'->B.H r.p=none->B.H r.q=none->H' r.p=some (HQ r 0)->H' r.q=some (.lst [])->F' r.p=none->F' r.q=none->F' r.l=some (.lst<|toks.map V.str)->E.rt (.ref r.p) H')->wSs X T1 E σ H
section
variable {ds:aQ}{st:Stmt}{bJ:List Stmt}
def sF(h1:SQ X ρ st (.nx ρ'))(h2:zq X ρ' bJ toks):zq X ρ (st::bJ) toks:=λB F H σ E k q=>.mk λpins s I=>gP vW dz pins s σ H E I (h1 B F H σ _ k λF1 H1 σ1 k1 s1=>h2 B F1 H1 σ1 E k1 q)
def Kk{P:Program}(Ti:P.given.tree=none){w:World}{K:ce}{mg:rG}{base:Heap}{x qual:Str}{st:Stmt}{f:Addr}{fd:FuncData}{N ps:cH}{k:Nat}{C:aQ->cH->Prop}(F:V2 K x qual st f fd)(S:aJ N ps (ai st))(len:∀ds ts,C ds ts->ds.length=ps.length)(body:∀X,DefX P w K mg base k N (ai st) X->∀ds ts,C ds ts->zq X (ds.map Sl.val++List.replicate (N.length-ds.length) Sl.un) (aD st) ts):dQ P w K mg base ja (k+1) f fd ps (Jm K C):=by
 refine F.ok S (λvs H Q E h=>?_) λS8 A outer s H vs Q E hr h=>?_;·obtain⟨F',ds,ts,sub,rv,hC,q⟩:=h;rw[rv.length];exact len ds ts hC
 ·obtain⟨F',ds,ts,sub,rv,hC,q⟩:=h;refine⟨_,dz,?_⟩;have hx:DefX P w K mg base k N (ai st) (mI ja P w K mg base N qual (ai st) f S8 A outer s H E).U7:=⟨⟨rfl,rfl,rfl,S.nd,rfl,hr.units,hr.UE,Ti,⟨_,_,rfl,S.gen,S.co,rfl,rfl⟩⟩,rfl,rfl,rfl,rfl,rfl,hr,⟨λ_=>rfl⟩,rfl,rfl⟩;have hb:=body _ hx ds ts hC;have hk:Ok K ⟨F',H⟩ F' H (start N vs) (ds.map Sl.val++List.replicate (N.length-ds.length) Sl.un):=by unfold start;rw[rv.length];exact iN sub rv _
  exact hb ⟨F',H⟩ F' H _ _ hk λr F2 H2 e ok x2 h1 h2 h3 h4 h5 h6 h7=>q r F2 H2 e ⟨ok,x2,h1,h2,h3,h4,h5,h6,by rw[e];exact h7⟩
def DefX.Xa{K:ce}{x:Str}{C:aQ->cH->Prop}(h:DefX P w K mg base k N sc X)(F:dQ P w K mg base ja j f fd ps (Jm K C))(hj:j<=k)(hm:mg x=some (.ref f))(hk:PySem.W.keepIn K (.ref f)=true)(hb:Binds K fd ps []):Ud X x C:=by obtain⟨h0,rfl,rfl,rfl,rfl,rfl,hr,_⟩:=h;exact⟨f,fd,ps,j,F,hr.mono hj,hm,hk,hb⟩
def Ku{pos:Pos}[Vh X](t:At X N sc)(i:Nat){C:aQ->cH->Prop}(h:Ud X x C)(ha:S3 X ρ (e::es) ds)(hC:C ds toks)(VQ:∀r:jl,gH X.K r->r.toks=toks->∃s',Tx (Sk r) X (ρ.set i<|.val<|.adr r.p) bJ (.rt d) (0,[]) s')(hg:uY sc x:=by rfl)(T7:qF x:=by rfl)(hi:N[i]?=some y:=by rfl)(hx:nJ sc y=true:=by rfl)(hs:swapsWith (.Call (.Name x p) (e::es) [] Sr) (some<|.Name y pos') pos.line X.env=pure false:=by rfl):Sf X ρ (.Assign [.Name y pos'] (.Call (.Name x p) (e::es) [] Sr) pos::bJ) (.rt d):=λB F0 H σ E k w=>.mk λpins s I=>by
 obtain⟨f,fd,ps,kk,F,Wr,hm,hk,hb⟩:=h;have pz:ia ja X E0:=qx;refine gP vW dz pins s σ H E I (.mk λpins s I=>oz (i:=i) t.nd (t.ix hi) (t.loc hx) (j8 F Wr (dS t hg) hm hk hb .nil pz pZ T7 (ha.1.1 _ _)<|VG.any ha.1.2) hs Gn pins s σ H _ I (ha.2 B F0 H σ _ k λvs F1 H1 x1 r1=>?_));refine⟨F1,ds,toks,x1.sub,by rw[bC];exact r1,hC,λr F2 H2 et nr=>?_⟩;obtain⟨ok,x2,n1,n2,h1,h2,f1,f2,hl⟩:=nr;have k1:=k.ext x1;have k2:=(k1.ext x2).Ta i (.adr r.p:Rep X.K F2 (.ref r.p) (.adr r.p));have dm:∀a u,(Sk r).ov ((0:Int),([]:dw)) a=some u->H1 a=none/\H2 a=some u/\F2 a=none:=λa u z=>by
  by_cases e1:a=r.p;·subst e1;rw[Sk.WJ]at z;cases z;exact⟨n1,h1,f1⟩
  ·by_cases e2:a=r.q;·subst e2;rw[Sk.Xh ok.ne]at z;cases z;exact⟨n2,h2,f2⟩
   ·rw[show(Sk r).ov ((0:Int),([]:dw)) a=none from(show(if a=r.p then _ else if a=r.q then _ else _)=_ by rw[av e1,av e2])]at z;cases z
 have Yy:∀(c:(Sk r).cs)a u,(Sk r).ov c a=some u->B.H a=none:=λc a u z=>by obtain⟨v,hv⟩:=LS.has z ((0:Int),([]:dw));exact k1.sh.free (dm a v hv).1
 have no:∀(j:Nat)xs a,(ρ.set i<|.val<|.adr r.p)[j]?=some (.own xs)->(σ.set i<|some<|.ref r.p)[j]?=some (some<|.ref a)->(Sk r).ov ((0:Int),([]:dw)) a=none:=λj xs a q1 q2=>by obtain⟨UQ,Yf⟩:=fW j _ q1 λz=>nomatch z;rw[List.getElem?_set_ne UQ]at q2;obtain⟨a',vs',g1,g2,_⟩:=k1.Tj j xs Yf;rw[g1]at q2;cases q2;cases e:(Sk r).ov ((0:Int),([]:dw)) a with|none=>rfl|some u=>rw[(dm a u e).1]at g2;cases g2
 have nd:∀(j:Nat)xs a,(ρ.set i<|.val<|.adr r.p)[j]?=some (.TQ xs)->(σ.set i<|some<|.ref r.p)[j]?=some (some<|.ref a)->(Sk r).ov ((0:Int),([]:dw)) a=none:=λj xs a q1 q2=>by obtain⟨UQ,Yf⟩:=fW j _ q1 λz=>nomatch z;rw[List.getElem?_set_ne UQ]at q2;obtain⟨a',vs',g1,g2,_⟩:=k1.So.UC j xs Yf;rw[g1]at q2;cases q2;cases e:(Sk r).ov ((0:Int),([]:dw)) a with|none=>rfl|some u=>rw[(dm a u e).1]at g2;cases g2
 have k3:Ok X.K (Sx (Sk r) B ((0:Int),([]:dw))) F2 H2 (σ.set i<|some<|.ref r.p) (ρ.set i<|.val<|.adr r.p):=k2.pin (S:=Sk r) (c:=((0:Int),([]:dw))) (λa u z=>Yy _ a u z) (λa u z=>(dm a u z).2.1) (λa u z=>(dm a u z).2.2) no nd;obtain⟨s',hz⟩:=VQ r ok et;refine hz (Sx (Sk r) B ((0:Int),([]:dw))) F2 H2 _ E ((0:Int),([]:dw)) ⟨λa u z=>jU z,λa u z=>?_,⟨rfl,.nil,hl⟩⟩ k3 λv F3 H3 c3 x3 r3 rv=>?_;·cases eb:B.F a with|none=>exact eb|some o=>have:=k3.sf a o eb;rw[(dm a u z).2.2]at this;cases this
 ·have e3:Sx (Sk r) (Sx (Sk r) B ((0:Int),([]:dw))) c3=Sx (Sk r) B c3:=Sx.up (S:=Sk r);rw[e3]at x3;exact w v F3 H3 (x3.XY λa u z=>Yy c3 a u z) rv
end
def z9(C:Addr):Sp:=λvs H Q _=>∃x dx l,vs=[.ref x,.ref l]/\H x=some (.ins C dx [])/\∀q H',H q=none->q≠x->H'=c6 (c6 H q<|.lst []) x (.ins C dx [("tokens",.ref l),("done",.int 0),("steps",.ref q)])->Q .Sy H'
structure Rm(X:Cx)(x:Str)(C:Addr):Prop where
 fn:∃(f:Addr)(fd:FuncData)(ps:cH)(k:Nat),Mk X.K C f/\dQ X.prog X.w X.K X.mg X.base ja k f fd ps (z9 C)/\SR (k+1) X.A/\Binds X.K fd ps []
 m:X.mg x=some (.ref C)
 cls:WL X.K C
 n1:SK X.K C "tokens"
 n2:SK X.K C "done"
 n3:SK X.K C "steps"
def Eb{K:ce}:∀{ts:cH}{vs:dw},Sh K F vs (ts.map D.str)->vs=ts.map V.str
 |[],_,h=>by cases h;rfl
 |t::ts,_,h=>by cases h with|cons r q=>cases r;rw[aP,Eb q]
def Ig{toks:cH}(t:At X N sc)(M:Rm X x C)(h:Se X ρ e (.lst<|toks.map D.str))(hg:uY sc x:=by rfl)(T7:qF x:=by rfl)(Ut:Pl e:=by intro _ _;rfl):zq X ρ [.Return (some<|.Call (.Name x p) [e] [] Sr) pos] toks:=λB F H σ E k w=>.mk λpins s I=>by
 obtain⟨f,fd,ps,kk,mk,fo,hr,hb⟩:=M.fn;have pz:ia ja X E0:=qx;refine pL (vX<|JQ mk fo hr (dS t hg) M.m hb .nil pz (ck aR eM<|Ut _ _) T7 (Ut _ _) rfl) pins s σ H E I (h B F H σ _ k λv F1 H1 x1 r1=>?_);intro x0 dx hx hdx UQ;cases r1 with|@lst l vs _ hf rl=>
 have ev:=Eb rl;subst ev;refine⟨x0,dx,l,rfl,by rw[aI],λq H' hq hqx eH=>⟨rfl,?_⟩⟩;rw[aC hqx]at hq;have hqd:q≠dx:=λz=>by subst z;rw[aI]at hq;cases hq
 rw[aC hqd]at hq;have k1:=k.ext x1;have x2:Ext ⟨F1,H1⟩ F1 H':=by
  refine⟨λb u z=>?_,λb u z=>?_,.refl _,λa z=>.inl z⟩;·have z':=x1.sub b u z;rw[eH,aC (λe=>by subst e;rw[hx]at z';cases z'),aC (λe=>by subst e;rw[hq]at z';cases z'),aC (λe=>by subst e;rw[hx]at z';cases z'),aC λe=>by subst e;rw[hdx]at z';cases z'];exact z'
  ·have z':H1 b=some u:=z;rw[eH,aC (λe=>by subst e;rw[hx]at z';cases z'),aC (λe=>by subst e;rw[hq]at z';cases z'),aC (λe=>by subst e;rw[hx]at z';cases z'),aC λe=>by subst e;rw[hdx]at z';cases z'];exact z'
 refine w ⟨C,x0,dx,q,l,toks⟩ F1 H' rfl ⟨M.cls,M.n1,M.n2,M.n3,hqx⟩ (k1.toExt.trans x2) (k1.sh.free hx) (k1.sh.free hq) (by rw[eH,aI];rfl) (by rw[eH];show c6 _ x0 _ q=_;rw[aC hqx,aI]) (x1.sub.free hx) (x1.sub.free hq) hf
def Gp{ρ:cA}(t:At X N sc)(ok:gH X.K r)(i:Nat){s:Int×aQ}(hr:ρ[i]?=some (.val<|.adr r.p))(h:SJ X tg body s.2 ρ (.nx ρ'))(hN:N[i]?=some x:=by rfl)(hv:fO sc x=true:=by rfl)(hx:cZ x=true:=by rfl)(hb:attributeBase (.Name x py) "steps" X.env (eval (.Name x py) X.env)=eval (.Name x py) X.env:=by rfl)(hs:∀z,foldedSetIterable (.Attribute (.Name x py) "steps" ps) X.env z=pure z:=by intro _;rfl):Ur (Sk r) X ρ (.For tg (.Attribute (.Name x py) "steps" ps) body [] pos) (.nx ρ') s s:=λB F H σ E c l k q=>.mk λpins w I=>Db t.pass t.calm (Ev<|v8 aR hb) Fx dz hs pins w σ H E I (FZ t hr hN hv hx k ⟨r.p,r.C,r.dx,_,.ref r.q,rfl,l.now k _ _ Sk.WJ,ok.cls,ok.n3,rfl,r.q,rfl,⟨_,Ts.of<|l.now k _ _<|Sk.Xh ok.ne⟩,by
  refine⟨λi m σ H=>∃ρ1 F1,Ok X.K B F1 H σ ρ1/\Sj F F1/\SJ X tg body (s.2.drop i) ρ1 (.nx ρ')/\m=s.2.length-i,⟨s.2.length,ρ,F,k,.refl _,by simpa using h,by simp⟩,?_⟩;rintro i m σ H ⟨ρ1,F1,k1,sf,run,rfl⟩;have hq:H r.q=some (.lst c.2):=k1.sh _ _<|l.st _ _<|Sk.Xh ok.ne;have rl:Sh X.K F1 c.2 s.2:=l.rep.2.1.mono sf;generalize e1:s.2.drop i=bJ at run;cases run with
  |nil=>
   have hl:s.2.length<=i:=by have:=aV List.length e1;rw[bP,iy]at this;lia
   refine .inl ⟨⟨c.2,Ts.of hq,by rw[rl.length];exact hl⟩,q F1 H σ c (by rw[Sx.same l.st];exact k1) (YD l sf) sf⟩
  |@cons d0 X5 _ ρa ρb _ g bd rr=>obtain⟨hd,VQ,S1⟩:=io e1;obtain⟨v,hv1,rv⟩:=rl.get hd;refine .inr ⟨⟨c.2,v,Ts.of hq,hv1⟩,λσ' H'=>∃Va,Ok X.K B Va H' σ' ρb/\Sj F Va,λσ' H' ⟨Va,Xx,UO⟩=>⟨s.2.length-(i+1),by lia,_,Va,Xx,UO,by rw[VQ];exact rr,rfl⟩,λxv H' y=>?_⟩;obtain⟨rfl,y⟩:=y;have ex:=y c.2 (Ts.of hq);rw[hv1]at ex;cases ex;exact g B F1 H' σ v _ k1 rv λF3 H3 σ3 k3 s3=>bd B F3 H3 σ3 _ k3 λF4 H4 σ4 k4 s4=>⟨F4,k4,sf.trans (s3.trans s4)⟩⟩)
where
 YD {B:B0} {F F1:Hp} {c:(Sk r).cs} {s:Int×aQ} (l:Ln (Sk r) X.K B F c s) (sf:Sj F F1):(Sk r).rep X.K F1 c s:=(Sk r).mono sf l.rep
def lD{ρ:cA}{xs:aQ}{xs':aQ}{Sr:Pos}{apos:Pos}(t:At X N sc)(i:Nat)(hr:ρ[i]?=some (.val<|.adr q))(hxs:xs=xs'++[d])(hN:N[i]?=some x:=by rfl)(hv:fO sc x=true:=by rfl)(hx:cZ x=true:=by rfl)(S4:(apos.endLine==Sr.line)=true:=by rfl):Uc X q ρ (.Call (.Attribute (.Name x py) "pop" apos) [] [] Sr) d xs xs':=λB F H σ Q us l k w=>.mk λpins s I=>by
 subst hxs;refine An dL yh yg Dj aR rfl S4 pins s σ H Q I ?_;refine IC t hr hN hv hx k ?_;have h2:H q=some (.lst us):=k.sh _ _ l.st;refine⟨.inl ⟨rfl,_,Ts.of h2⟩,?_⟩;have hl:=l.rep.length;obtain⟨v,hw,U1⟩:=l.rep.get (i:=xs'.length) (d:=d) (by simp);have hll:us.length-1=xs'.length:=by rw[hl];simp
 refine⟨q,us,v,rfl,rfl,h2,by rw[hll];exact hw,?_⟩;have hf:=l.ff k;have rd:=l.rep.dropLast;rw[Bu]at rd;exact w v F _ us.dropLast ⟨λb u z=>by rw[aC λe=>by subst e;rw[hf]at z;cases z];exact k.sub b u z,λb u z=>z,.refl _,λa z=>.inl z⟩ rd U1
def ku{ρ:cA}{pos:Pos}{Sr:Pos}{apos:Pos}(t:At X N sc)(i:Nat)(hr:ρ[i]?=some (.val<|.adr q))(he:Uc X q ρ e d xs UH)(hz:UH.length<sizeLine)(hN:N[i]?=some x:=by rfl)(hv:fO sc x=true:=by rfl)(hx:cZ x=true:=by rfl)(Yx:attributeBase (.Name x py) "append" X.env (eval (.Name x py) X.env)=eval (.Name x py) X.env:=by rfl)(hs:Fe e [] X.env:=by rfl)(S4:(apos.endLine==Sr.line)=true:=by rfl)(U2:vv Sr [] X.env:=by rfl)(Vl:Jc Sr [e] X.env:=by rfl)(V7:swapsWith (.Call (.Attribute (.Name x py) "append" apos) [e] [] Sr) none pos.line X.env=pure false:=by rfl):rk X q ρ (.Expr (.Call (.Attribute (.Name x py) "append" apos) [e] [] Sr) pos) (.nx ρ) xs (UH++[d]):=λB F H σ E us l k w=>.mk λpins st I=>m9 (Hm dL kl kj pO aR (ck aR eM hs) Yx Vl S4 hs U2) V7 pins st σ H E I<|IC t hr hN hv hx k ⟨.inl ⟨rfl,_,Ts.of<|k.sh _ _ l.st⟩,he B F H σ _ us l k λv F1 H1 u1 x1 r1 rv=>by have k1:=k.Vc l x1;have l1:Uq X.K (Tv B q u1) q F1 u1 UH:=⟨aI,l.fr,r1⟩;refine⟨q,u1,v,rfl,rfl,k1.sh _ _ aI,by rw[r1.length];exact hz,?_⟩;have k2:Ok X.K (Tv (Tv B q u1) q<|u1++[v]) F1 (c6 H1 q<|.lst<|u1++[v]) σ ρ:=k1.X7 l1;rw[Tv.up]at k2;exact w F1 _ σ (u1++[v]) k2 (r1.append<|.cons rv .nil) x1.sf⟩
def Jn(K:ce)(C:D->aQ->aQ->Prop):Sp:=λvs H Q _=>∃q F d0 us xs xs',Sj F H/\H q=some (.lst us)/\F q=none/\Sh K F us xs/\Sh K F vs [d0,.adr q]/\C d0 xs xs'/\∀v F' H' Uj,Ext (Tv ⟨F,H⟩ q Uj) F' H'->Sh K F' Uj xs'->Rep K F' v .Sy->Q v H'
def UY(X:Cx)(x:Str)(C:D->aQ->aQ->Prop):Prop:=∃(f:Addr)(fd:FuncData)(ps:cH)(k:Nat),dQ X.prog X.w X.K X.mg X.base ja k f fd ps (Jn X.K C)/\SR k X.A/\X.mg x=some (.ref f)/\PySem.W.keepIn X.K (.ref f)=true/\Binds X.K fd ps []
def Kl{P:Program}(Ti:P.given.tree=none){w:World}{K:ce}{mg:rG}{base:Heap}{x qual:Str}{st:Stmt}{f:Addr}{fd:FuncData}{N ps:cH}{k:Nat}{C:D->aQ->aQ->Prop}(F:V2 K x qual st f fd)(S:aJ N ps (ai st))(len:2=ps.length)(body:∀X,DefX P w K mg base k N (ai st) X->∀q d0 xs xs',C d0 xs xs'->∃ρ',UZ X q (.val d0::.val (.adr q)::List.replicate (N.length-2) Sl.un) (aD st) (.nx ρ') xs xs'):dQ P w K mg base ja (k+1) f fd ps (Jn K C):=by
 refine F.ok S (λvs H Q E h=>?_) λS8 A outer s H vs Q E hr h=>?_;·obtain⟨p,F',d0,us,xs,xs',sub,hp,hf,ru,r,hC,q⟩:=h;rw[r.length];exact len
 ·obtain⟨p,F',d0,us,xs,xs',sub,hp,hf,ru,r,hC,q⟩:=h;refine⟨_,dz,?_⟩;have hx:DefX P w K mg base k N (ai st) (mI ja P w K mg base N qual (ai st) f S8 A outer s H E).U7:=⟨⟨rfl,rfl,rfl,S.nd,rfl,hr.units,hr.UE,Ti,⟨_,_,rfl,S.gen,S.co,rfl,rfl⟩⟩,rfl,rfl,rfl,rfl,rfl,hr,⟨λ_=>rfl⟩,rfl,rfl⟩;have hk:Ok K ⟨F',H⟩ F' H (start N vs) ([d0,.adr p].map Sl.val++List.replicate (N.length-2) Sl.un):=by unfold start;rw[r.length];exact iN sub r _
  obtain⟨ρ',hb⟩:=body _ hx p d0 xs xs' hC;exact hb ⟨F',H⟩ F' H _ _ us ⟨hp,hf,ru⟩ hk λF2 H2 σ2 Wo k2 r2 s2=>q .Sy F2 H2 Wo k2.toExt r2 .Sy
def DefX.Xb{K:ce}{x:Str}{C:D->aQ->aQ->Prop}(h:DefX P w K mg base k N sc X)(F:dQ P w K mg base ja j f fd ps (Jn K C))(hj:j<=k)(hm:mg x=some (.ref f))(hk:PySem.W.keepIn K (.ref f)=true)(hb:Binds K fd ps []):UY X x C:=by obtain⟨h0,rfl,rfl,rfl,rfl,rfl,hr,_⟩:=h;exact⟨f,fd,ps,j,F,hr.mono hj,hm,hk,hb⟩
def GR{ρ:cA}{pos:Pos}(t:At X N sc){C:D->aQ->aQ->Prop}(h:UY X x C)(i:Nat)(hr:ρ[i]?=some (.own xs))(ha:Se X ρ e d0)(hC:C d0 xs xs')(hN:N[i]?=some y:=by rfl)(hv:fO sc y=true:=by rfl)(hx:cZ y=true:=by rfl)(hg:uY sc x:=by rfl)(T7:qF x:=by rfl)(hs:Pl (.Name y py):=by intro _ _;rfl)(he:Pl e:=by intro _ _;rfl)(V7:swapsWith (.Call (.Name x p) [e,.Name y py] [] Sr) none pos.line X.env=pure false:=by rfl):SQ X ρ (.Expr (.Call (.Name x p) [e,.Name y py] [] Sr) pos) (.nx<|ρ.set i<|.own xs'):=by
 obtain⟨f,fd,ps,k,F,Wr,hm,hk,hb⟩:=h;have pz:ia ja X E0:=qx;refine .of (m9 (j8 F Wr (dS t hg) hm hk hb .nil pz (ck aR (ck aR eM<|hs _ _)<|he _ _) T7 (he _ _)<|by unfold vv;rw[hs];rfl) V7) λB F' H σ E k' q=>?_;refine ha B F' H σ _ k' λv0 F1 H1 x1 r1=>?_;have k1:=k'.ext x1;refine tJ t hr hN hv hx k1 λl us h1 h2 h3=>?_;have hf1:F1 l=none:=by obtain⟨a,vs,o1,o2,o3,o4,o5⟩:=k1.Tj i xs hr;rw[h1]at o1;cases o1;exact o3
 refine⟨l,F1,d0,us,xs,xs',x1.sub,h2,hf1,h3,?_,hC,λv F2 H2 Wo x2 r2 rv=>q F2 H2 σ (k1.back hr h1 x2 r2)<|x1.sf.trans x2.sf⟩;exact .cons r1<|.cons (.adr l) .nil
def pR(ha:Se X ρ a (.str z))(hb:Se X ρ b (.str w))(hz:z.length+w.length<=sizeLine):Se X ρ (.BinOp a .Add b pos) (.str<|z++w):=.of (qw qK aR aR) λB F H σ Q k q=>two ha hb k λx y F' H' x' rx ry=>by cases rx;cases ry;exact⟨z,w,rfl,rfl,hz,q _ F' H' x'<|.str _⟩
def AF{r:Bool}(ha:Se X ρ a (.str z))(hb:Se X ρ b (.str w))(hr:(!(Builtin.Str.occurrences w z 0 w.length 1).isEmpty)=r)(hm:behindInMarks .In b=false:=by rfl):Se X ρ (.Compare a [.In] [b] pos) (.bl r):=.of (pN y6 aR aR hm) λB F H σ Q k q=>two ha hb k λx y F' H' x' rx ry=>by cases rx;cases ry;subst hr;exact⟨z,w,rfl,rfl,q _ F' H' x'<|.bl _⟩
def lS{r:Bool}(ha:Se X ρ a (.str z))(hb:Se X ρ b (.str w))(hr:(!(Builtin.Str.occurrences w z 0 w.length 1).isEmpty)=r)(hm:behindInMarks .In b=false:=by rfl):Sg X ρ (.Compare a [.In] [b] pos) r:=.of (fY y6 aR aR hm) λB F H σ Q k q=>two ha hb k λx y F' H' x' rx ry=>by cases rx;cases ry;subst hr;exact⟨z,w,rfl,rfl,_,rfl,q F' H' x'⟩
def dB(t:At X N sc)(bl:mf X sc x (.builtin "len"))(ha:Se X ρ e (.str z))(hz:z.length<=sizeLine)(Ut:Pl e:=by intro _ _;rfl):Se X ρ (.Call (.Name x p) [e] [] pos) (.int z.length):=sE t bl AW (ac ha ah Ut) λF H vs Q sub r q=>by obtain⟨v,rfl,rv⟩:=r.one;cases rv;exact⟨z,rfl,hz,q _ F H (.refl sub)<|.int _⟩
def AD(t:At X N sc)(bl:mf X sc x (.type "str"))(ha:Se X ρ e (.int i))(hz:i.natAbs.log2<1920)(Ut:Pl e:=by intro _ _;rfl):Se X ρ (.Call (.Name x p) [e] [] pos) (.str<|toString i):=tY t bl AU (ac ha ah Ut) λF H vs Q sub r q=>by obtain⟨v,rfl,rv⟩:=r.one;cases rv;exact⟨i,rfl,hz,q _ F H (.refl sub)<|.str _⟩
def AX:gS X (.type "int") (λxs H Q=>∃z n,xs=[.str z]/\PySem.intText? z=some n/\z.length<=640/\Q (.int n) H):=by intro pins s σ H xs us Q I r h;obtain⟨z,n,rfl,h1,h2,q⟩:=h;obtain⟨u,rfl,t,rfl⟩:=kT r;exact PySem.W.KIN.call_text h1 h2 ⟨.int n,H,I.tok _,⟨_,rfl⟩,q⟩
def sD(t:At X N sc)(bl:mf X sc x (.type "int"))(ha:Se X ρ e (.str z))(hn:PySem.intText? z=some n)(hz:z.length<=640)(Ut:Pl e:=by intro _ _;rfl):Se X ρ (.Call (.Name x p) [e] [] pos) (.int n):=tY t bl AX (ac ha ah Ut) λF H vs Q sub r q=>by obtain⟨v,rfl,rv⟩:=r.one;cases rv;exact⟨z,n,rfl,hn,hz,q _ F H (.refl sub)<|.int _⟩
def Dk:Rk X "str.isalnum" (λx xs H Q=>∃z,x=.str z/\xs=[]/\Q (.bl<|Txt.isalnum z) H):=by intro pins s σ H x xs v us Q I rx rs h;obtain⟨z,rfl,rfl,q⟩:=h;obtain⟨t,rfl⟩:=rx;cases rs;exact SC.isalnum ⟨.bl _,H,I,rfl,q⟩
def jk{apos Sr:Pos}(ho:Se X ρ a (.str z))(UX:attributeBase a "isalnum" X.env (eval a X.env)=eval a X.env:=by rfl)(S4:(apos.endLine==Sr.line)=true:=by rfl):Se X ρ (.Call (.Attribute a "isalnum" apos) [] [] Sr) (.bl<|Txt.isalnum z):=.of (An PySem.F.plainAttrs_str PySem.F.slot_str_isalnum PySem.F.type_str_isalnum Dk aR UX S4) λB F H σ Q k q=>ho B F H σ _ k λv F1 H1 x1 r1=>by cases r1;exact⟨rfl,z,rfl,rfl,q _ F1 H1 x1<|.bl _⟩
end L2.EV
namespace L2
open PySem PySem.Spec PyProof.Rows
variable {K:ce}{ds:aQ}
def Rp(z:Str):It:=⟨λi _=>i<z.cps.size,λi H x H'=>H'=H/\∃c,z.cps[i]?=some c/\x=.str ⟨#[c]⟩,λi _=>z.cps.size<=i,False⟩
def Fh{K:ce}(it:Addr)(z:Str)(t:Tok):Bq P w K tg (Rp z) [it] it (λi h=>h.IsStrIter it "str_ascii_iterator" z t i) where
 mem:=by simp
 obj:=λi h st b hb=>by
  have e:b=it:=by simpa using hb
  subst e;obtain⟨o,e,c,d⟩:=st;exact⟨o,e,λv z=>by rw[d]at z;cases z⟩
 keep:=λi h h' st k=>let⟨o,e,r⟩:=st;⟨o,k it (by simp) o e,r⟩
 item:=by intro X hP hw hK hc i pins s σ H E I hf st hg;subst hP hw hK;replace hc:=hc.resolve_right λz=>z.1;obtain⟨f0,f1,f2,f3,f4,f5⟩:=hf it (by simp);have hi:i<z.cps.size:=hg;refine wpAny_pyNext_ascii_item st (c:=z.cps[i]) (by simp[hi]) λh' Vy sb=>?_;have I1:Inv X pins σ H {s with heap:=h',toks:=s.toks+1}:=I.turned (λb o hb e=>(sb.2 b hb).trans e) f0 f1 f3 f4 f5;obtain⟨o,e,c,d⟩:=id Vy;exact⟨_,rfl,EK (s:={s with heap:=h',toks:=s.toks+1}) e c d (by decide) ⟨.str ⟨#[z.cps[i]]⟩,H,I1,⟨_,rfl⟩,⟨rfl,_,by simp[hi],rfl⟩,Vy,λb hb=>(hf b hb).1⟩⟩
 done:=by intro X hP hw hK hc i pins s σ H E I hf st hg;subst hP hw hK;replace hc:=hc.resolve_right λz=>z.1;obtain⟨f0,f1,f2,f3,f4,f5⟩:=hf it (by simp);have hi:z.cps.size<=i:=hg;exact wpAny_pyNext_ascii_end (I.ok.hd hc) st (by simp[hi]) λh' eb=>⟨rfl,I.turned (t':=s.toks) (λb o hb e=>eb b o hb e) f0 f1 f3 f4 f5⟩
 self:=λ_ _ _ _ _ st h=>wpAny_pyIter_striter_ascii st h
def QX(tl:TE):TI:=λσ H R=>tl σ H λx H1=>∃z,x=.str z/\z.cps.all (·<128)=true/\R (Rp z) H1
def Mu(hl:PE X l tl):PI X tg l (QX tl):=by
 intro pins s σ H R I h;refine dW (hl pins s σ H _ I h) λv s1 ⟨x,H1,I1,r1,q1⟩=>?_;obtain⟨z,e,ha,q⟩:=q1;subst e;obtain⟨t,rfl⟩:=r1;refine wpAny_pyIter_ascii ha ?_;refine⟨s1.heap.objs.size,[s1.heap.objs.size],_,_,H1,rfl,I1.kept (t':=s1.toks) λb o e=>Heap.get?_push_of_some _ e,Fh _ z t,⟨_,Heap.get?_push_size _ rfl,rfl,rfl⟩,λb hb=>?_,q⟩;have e:b=s1.heap.objs.size:=by simpa using hb
 subst e;exact I1.Wv (ar _)<|I1.SA.fresh<|ar _
end L2
namespace L2.EV
open PySem PySem.Spec PyProof.Rows
variable {K:ce}{ds:aQ}
def IT(z:Str):aQ:=z.cps.toList.map λc=>D.str ⟨#[c]⟩
def M7{K:ce}:uh K (Rp z) F (IT z):=λi F2 H2 s1 s2=>⟨λd hd=>by
  unfold IT at hd;rw[List.getElem?_map]at hd;cases e:z.cps.toList[i]? with
  |none=>rw[e]at hd;cases hd
  |some c=>
   rw[e]at hd;cases hd;have hi:=(List.getElem?_eq_some_iff.mp e).1;refine⟨(show i<z.cps.size by simpa using hi),λx H' y=>?_⟩;obtain⟨rfl,c',h1,rfl⟩:=y;have h2:z.cps[i]?=some c:=by simpa using e
   rw[h2]at h1;cases h1;exact⟨F2,.refl s2,.str _⟩,λh=>by
   have h':z.cps.size<=i:=by simpa[IT]using h
   exact h'⟩
def DC(h:Se X ρ e (.str z))(ha:z.cps.all (·<128)=true):WK X ρ tg e (IT z):=.of (Mu aR) λB F H σ R k q=>h B F H σ _ k λv F' H' x r=>by cases r;exact⟨z,rfl,ha,q _ F' H' x M7⟩
section
variable {lo:Expr}
def GO:Re X (λx lo hi H Q=>∃z,x=.str z/\z.length<=sizeLine/\Q (.str<|Txt.slice z lo hi) H):=by
 intro pins s σ H x v vl vu lo hi sl Q I rx hs pl pu h;obtain⟨z,rfl,hz,q⟩:=h;obtain⟨t,rfl⟩:=rx;have part:∀{v:Value}{o:Option Int},IsPart v o->∃l:Option (Int×Tok),v=partValue l/\l.map (·.1)=o:=λh=>by cases h with|none=>exact⟨none,rfl,rfl⟩|int i t=>exact⟨some (i,t),rfl,rfl⟩
 obtain⟨l,rfl,rfl⟩:=part pl;obtain⟨u,rfl,rfl⟩:=part pu;exact⟨"str",_,PySem.F.slot_str_getitem.lookup,typeIs_str _ _ _,wpAny_getItem_str_slice (l:=l) (u:=u) (st:=none) hs rfl (post_val_or_str ⟨ao (Txt.slice_le z _ _) hz,λt' k=>⟨.str (Txt.slice z (l.map (·.1)) (u.map (·.1))),H,I.tok _,⟨_,rfl⟩,q⟩⟩)⟩
def nt(h:Se X ρ e (.str z))(h1:Se X ρ lo (.int i))(h2:Se X ρ hi (.int j))(hz:z.length<=sizeLine):Se X ρ (.Subscript e (.Slice (some lo) (some hi) none p2) pos) (.str<|Txt.slice z (some i)<|some j):=.of (v7 GO aR (Am aR)<|Am aR) λB F H σ Q k q=>h B F H σ _ k λv F1 H1 x1 r1=>h1 B F1 H1 σ _ (k.ext x1) λv2 F2 H2 x2 r2=>by cases r1;cases r2;exact⟨i,rfl,h2 B F2 H2 σ _ (k.ext<|x1.t x2) λv3 F3 H3 x3 r3=>by cases r3;exact⟨j,rfl,z,rfl,hz,q _ F3 H3 (x1.t<|x2.t x3)<|.str _⟩⟩
def BR(cs:Array Nat)(i:Nat):∀n,i+n<=cs.size->((List.range n).map λk=>i+k).filterMap (cs[·]?)=(cs.toList.drop i).take n
 |0,_=>by simp
 |n+1,h=>by
  rw[KT,aN,List.filterMap_append,BR cs i n<|by lia,jr,List.getElem?_drop];congr 1;have:i+n<cs.size:=by lia
  simp[this]
def Bz:∀(xs:dw)(us:ir),us.length=xs.length->(∀(j:Nat)x u,xs[j]?=some x->us[j]?=some u->RelV x u)->Vals xs us|[],[],_,_=>.nil|x::xs,u::us,hl,h=>.cons (h 0 x u rfl rfl) (Bz xs us (by simpa using hl) λj y v h1 h2=>h (j+1) y v h1 h2)
def sL{z:Str}{i j:Nat}(h:i<=j)(hi:i<=z.length):Txt.slice z (some (i:Int)) (some (j:Int))=⟨((z.cps.toList.drop i).take<|j-i).toArray⟩:=by
 have hz:z.length=z.cps.size:=rfl;have e1:Builtin.Str.strSliceIndices (some (i:Int)) (some (j:Int)) 1 z.length=(List.range<|min j z.length-i).map λk=>i+k:=by
  unfold Builtin.Str.strSliceIndices sliceRange;have a1:¬((i:Int)<0):=by lia
  have a2:¬((j:Int)<0):=by lia
  simp only[a1,a2,Gc,show(1:Int)>0 by decide,xn];have b1:max 0 (min (i:Int) (z.length:Int))=i:=by lia
  have b2:max 0 (min (j:Int) (z.length:Int))=(min j z.length:Nat):=by lia
  rw[b1,b2];have b3:(if(i:Int)<(min j z.length:Nat)then(((min j z.length:Nat):Int)-i+1-1) / 1 else 0).toNat=min j z.length-i:=by split<;>lia
  rw[b3];exact CL λk _=>by lia
 have e2:((List.range<|min j z.length-i).map λk=>i+k).filterMap (z.cps[·]?)=(z.cps.toList.drop i).take (j-i):=by
  rw[BR z.cps i (min j z.length-i)<|by lia];by_cases hj:j<=z.length;·rw[KR hj]
  ·rw[ie<|by rw[bP,dv];lia,ie<|by rw[bP,dv];lia]
 unfold Txt.slice;rw[e1,e2];split
 ·rename_i h0;rw[dM,jq,jq,aj,i8]at h0;have h1:=h0.2;have hi0:i=0\/z.length=0:=by lia
  rcases hi0 with rfl |e;·rw[NU,Gf,ie<|by rw[dv];lia]
  ·have:z.cps.toList=[]:=bx (by rw[dv];lia);rw[this];obtain⟨c⟩:=z;have hc:c=#[]:=Array.eq_empty_of_size_eq_zero e;subst hc;simp
 ·rfl
def DJ{X:Cx}(hc:X.calm=true):gS X (.type "list") (λxs H Q=>∃z,xs=[.str z]/\z.length<=sizeLine/\∀l,H l=none->Q (.ref l) (c6 H l<|.lst (z.cps.toList.map λc=>V.str ⟨#[c]⟩))):=by
 intro pins s σ H xs us Q I r h;obtain⟨z,rfl,hz,q⟩:=h;obtain⟨u,rfl,t,rfl⟩:=kT r;refine call_list_str (I.ok.hd hc) z t (hn:=hz) λh' tk zAB c' kp e zDB=>?_;have rv:Vals (z.cps.toList.map λc=>V.str ⟨#[c]⟩) zAB.toList:=by obtain⟨h1,h2⟩:=zDB;refine Bz _ _ (by simp[h1]) λj x u e1 e2=>?_;obtain⟨c,t',hc,rfl⟩:=h2 j u (by simpa using e2);rw[List.getElem?_map,show z.cps.toList[j]?=some c by simpa using hc]at e1;cases e1;exact⟨t',rfl⟩
 exact⟨.ref s.heap.objs.size,_,I.laid (t':=tk) kp (ar _) (show Su X.prog X.w _ h' _ (.lst _)from⟨by rw[aj,dv];exact hz,zAB.toList,c',rv,by simpa using e⟩),rfl,q _<|I.SA.fresh<|ar _⟩
def yv{K:ce}:∀cs:bZ,Sh K F (cs.map λc=>V.str ⟨#[c]⟩) (cs.map λc=>D.str ⟨#[c]⟩)|[]=>.nil|c::cs=>.cons (.str _)<|yv cs
def Ce(t:At X N sc)(bl:mf X sc x (.type "list"))(ha:Se X ρ e (.str z))(hz:z.length<=sizeLine)(Ut:Pl e:=by intro _ _;rfl):Ss X ρ (.Call (.Name x p) [e] [] pos) (IT z):=.of (mB (DJ t.calm) (dS t bl.g) bl.m bl.v (ck aR eM<|Ut _ _) bl.n bl.d (Ut _ _) rfl) λB F H σ Q k' q=>ha B F H σ _ k' λv F' H' x' r=>by cases r;exact⟨z,rfl,hz,λl hl=>q l _ F' _ ⟨x'.sub.trans<|aU hl,x'.sh.trans<|aU hl,x'.sf,x'.nw⟩ (x'.sh.free hl) aI (x'.sub.free hl)<|yv _⟩
end
def oP{x:Str}(t:At X N sc)(hm:∃tk,X.mg x=some (.str z tk))(hg:uY sc x:=by rfl)(T7:qF x:=by rfl):Se X ρ (.Name x p) (.str z):=by obtain⟨tk,hm⟩:=hm;exact .of (va (dS t hg) hm (show RelV (.str z) (.str z tk)from⟨_,rfl⟩) T7) λB F H σ Q k q=>q _ F H (.refl k.sub)<|.str _
def iQ{x:Str}(t:At X N sc)(hm:∃tk,X.mg x=some (.int z tk))(hg:uY sc x:=by rfl)(T7:qF x:=by rfl):Se X ρ (.Name x p) (.int z):=by obtain⟨tk,hm⟩:=hm;exact .of (va (dS t hg) hm (show RelV (.int z) (.int z tk)from⟨_,rfl⟩) T7) λB F H σ Q k q=>q _ F H (.refl k.sub)<|.int _
def Ae{pos:Pos}(h:Se X ρ e d)(V7:swapsWith e none pos.line X.env=pure false:=by rfl):SQ X ρ (.Expr e pos) (.nx ρ):=λB F H σ E k q=>.mk λpins s I=>m9 aR V7 pins s σ H E I (h B F H σ _ k λv F' H' x' r=>q F' H' σ (k.ext x') x'.sf)
def Mj:SQ X ρ (.Return none pos) (.rt .Sy):=λB F H σ E k q=>.mk λpins s I=>JI pins s σ H E I<|q .Sy F H k.toExt .Sy
def Nd{P:Program}(Ti:P.given.tree=none){w:World}{K:ce}{mg:rG}{base:Heap}{x qual:Str}{st:Stmt}{f:Addr}{fd:FuncData}{N ps:cH}{k:Nat}{C:aQ->D->Prop}(F:V2 K x qual st f fd)(S:aJ N ps (ai st))(len:∀ds d,C ds d->ds.length=ps.length)(body:∀X,DefX P w K mg base k N (ai st) X->∀ds d,C ds d->Sf X (ds.map Sl.val++List.replicate (N.length-ds.length) Sl.un) (aD st) (.rt d)\/(d=.Sy/\∃ρ',Sf X (ds.map Sl.val++List.replicate (N.length-ds.length) Sl.un) (aD st)<|.nx ρ')):dQ P w K mg base ja (k+1) f fd ps (GN K C):=by
 refine F.ok S (λvs H Q E h=>?_) λS8 A outer s H vs Q E hr h=>?_;·obtain⟨F',ds,d,sub,r,hC,q⟩:=h;rw[r.length];exact len ds d hC
 ·obtain⟨F',ds,d,sub,r,hC,q⟩:=h;refine⟨_,dz,?_⟩;have hx:DefX P w K mg base k N (ai st) (mI ja P w K mg base N qual (ai st) f S8 A outer s H E).U7:=⟨⟨rfl,rfl,rfl,S.nd,rfl,hr.units,hr.UE,Ti,⟨_,_,rfl,S.gen,S.co,rfl,rfl⟩⟩,rfl,rfl,rfl,rfl,rfl,hr,⟨λ_=>rfl⟩,rfl,rfl⟩;have hk:Ok K ⟨F',H⟩ F' H (start N vs) (ds.map Sl.val++List.replicate (N.length-ds.length) Sl.un):=by unfold start;rw[r.length];exact iN sub r _
  rcases body _ hx ds d hC with hb |⟨rfl,ρ',hb⟩;·exact hb ⟨F',H⟩ F' H _ _ hk λv F2 H2 x2 r2=>q v F2 H2 x2 r2
  ·exact hb ⟨F',H⟩ F' H _ _ hk λF2 H2 σ2 k2 s2=>q .Sy F2 H2 k2.toExt .Sy
def S(cs:bZ):Str:=⟨cs.toArray⟩
def cq(cs:bZ):(S cs).length=cs.length:=by show cs.toArray.size=_;simp
def eD(cs:bZ):(S cs).cps.toList=cs:=by show cs.toArray.toList=_;simp
def uz(a b:bZ):S a++S b=S (a++b):=by show(⟨a.toArray++b.toArray⟩:Str)=⟨_⟩;simp
def fP{a:bZ}(h:S a=S b):a=b:=by rw[<-eD a,h,eD]
def Rh(z:Str):z=S z.cps.toList:=by obtain⟨c⟩:=z;show(⟨c⟩:Str)=⟨_⟩;simp
def dA{cs:bZ}(h:∀c∈cs,c<128):PyData.strOk (S cs)=true:=by show cs.toArray.all (·<0x110000)=true;simp only[List.all_toArray,nR,bj];intro c hc;have:=h c hc;lia
def IH{cs:bZ}(h:∀c∈cs,c<128):(S cs).cps.all (·<128)=true:=by show cs.toArray.all (·<128)=true;simp only[List.all_toArray,nR,bj];exact h
def al(c:Nat):Bool:=PySem.Unicode.isAlnum c
def Gb(c:Nat):Txt.isalnum (S [c])=al c:=by show(decide ((#[c]:Array Nat).size>0)&&(#[c]:Array Nat).all PySem.Unicode.isAlnum)=_;simp[al]
def q9{pre:bZ}{c:Nat}:kS (S<|pre++c::post).cps.toList (pre.length:Int)=some c:=by rw[eD];exact dJ<|by simp
def LL(pre w post:bZ):Txt.slice (S<|pre++w++post) (some (pre.length:Int)) (some<|(pre.length:Int)+(w.length:Int))=S w:=by
 have e:(pre.length:Int)+(w.length:Int)=((pre.length+w.length:Nat):Int):=by lia
 rw[e,sL (by lia)<|by rw[cq];simp,eD];show(⟨_⟩:Str)=⟨_⟩;simp[List.drop_append,List.take_append]
def DZ(pre post:bZ)(c:Nat):Txt.slice (S<|pre++c::post) (some (pre.length:Int)) (some<|(pre.length:Int)+2)=S (c::post.take 1):=by
 have e:(pre.length:Int)+2=((pre.length+2:Nat):Int):=by lia
 rw[e,sL (by lia)<|by rw[cq];simp,eD];show(⟨_⟩:Str)=⟨_⟩;simp[List.drop_append,List.take_append]
def Pb:Stmt->Stmt|.ClassDef _ _ _ (b::_) _ _ _ _ _ _ _=>b|s=>s
def Kh{P:Program}{K:ce}{st:Stmt}{k:Nat}{p4:Pos}(Ti:P.given.tree=none)(F:V2 K x qual st f fd)(S:aJ ["self","tokens"] ["self","tokens"] (ai st))(c:WL K C)(n1:SK K C "tokens")(n2:SK K C "done")(n3:SK K C "steps")(hb:aD st=[.Assign [.Attribute (.Name "self" p1) "tokens" p2] (.Name "tokens" p3) a1,.Assign [.Attribute (.Name "self" p4) "done" p5] (.Constant (.int 0) j p6) a2,.Assign [.Attribute (.Name "self" p7) "steps" p8] (.List [] p9) a3])(v1:fO (ai st) "self"=true)(v2:fO (ai st) "tokens"=true):dQ P w K mg base ja (k+1) f fd ["self","tokens"] (z9 C):=by
 refine F.ok S (λvs H Q E h=>?_) λS8 A outer s H vs Q E hr h=>?_;·obtain⟨x,dx,l,rfl,_⟩:=h;rfl
 ·obtain⟨x0,dx,l,rfl,hx,q⟩:=h;have hX:DefX P w K mg base k ["self","tokens"] (ai st) (mI ja P w K mg base ["self","tokens"] qual (ai st) f S8 A outer s H E).U7:=⟨⟨rfl,rfl,rfl,S.nd,rfl,hr.units,hr.UE,Ti,⟨_,_,rfl,S.gen,S.co,rfl,rfl⟩⟩,rfl,rfl,rfl,rfl,rfl,hr,⟨λ_=>rfl⟩,rfl,rfl⟩;have t:=hX.at';rw[hb];refine⟨_,gP (Dd (tG t (i:=0) rfl v1 rfl) (tG t (i:=1) rfl v2 rfl) rfl)<|gP (Dd (tG t (i:=0) rfl v1 rfl) Hl rfl)<|pL<|Dd (tG t (i:=0) rfl v1 rfl) (Hk eM) rfl,?_⟩;refine⟨.ref l,rfl,.ref x0,rfl,x0,C,dx,[],rfl,hx,c,n1,by decide,?_⟩;refine⟨.ref x0,rfl,x0,C,dx,_,rfl,aI,c,n2,(by show 1<1000;decide),?_⟩;refine⟨bR _,λp hp=>⟨.ref x0,rfl,x0,C,dx,m8 "done" (.int 0)<|m8 "tokens" (.ref l) [],rfl,?_,c,n3,(show(2:Nat)<1000 by decide),?_⟩⟩
  ·have YJ:x0≠p:=λe=>by subst e;rw[aI]at hp;cases hp
   rw[aC YJ,aI]
  ·have YJ:p≠x0:=λe=>by subst e;rw[aI]at hp;cases hp
   refine q p _ (by rwa[aC YJ,aC YJ]at hp) YJ ?_;funext b;unfold c6;by_cases h1:b=x0;·rw[ax h1,ax h1];rfl
   ·rw[av h1,av h1];by_cases h2:b=p;·simp[h1,h2,YJ]
    ·simp[h1,h2]
def DefX.mkR{x:Str}{K:ce}(h:DefX P w K mg base k N sc X)(F:dQ P w K mg base ja j f fd ps (z9 C))(hj:j+1<=k)(M:Mk K C f)(hm:mg x=some (.ref C))(hb:Binds K fd ps [])(c:WL K C)(n1:SK K C "tokens")(n2:SK K C "done")(n3:SK K C "steps"):Rm X x C:=by obtain⟨h0,rfl,rfl,rfl,rfl,rfl,hr,_⟩:=h;exact⟨⟨f,fd,ps,j,M,F,hr.mono hj,hb⟩,hm,c,n1,n2,n3⟩
def y7{c:Int}{α:Type}{f:α->Int}:∀(l:List α),(l.map f).Nodup->(l.filter λx=>f x==c).length<=1
 |[],_=>bR _
 |x::l,nd=>by
  rw[aP,dG]at nd;have ih:=y7 (c:=c) l nd.2;rw[nQ];split;·rename_i hx;have e:l.filter (λx=>f x==c)=[]:=xp.mpr λy hy hyc=>nd.1<|List.mem_map.mpr ⟨y,hy,(eq_of_beq hyc).trans (eq_of_beq hx).symm⟩;rw[e];exact ar _
  ·exact ih
def BM{s:Shared}{Q:Bool->Shared->Prop}(hk:(tupleKind<|intKind prog w).is s.heap k a)(h:Q false s):wpAny (model prog w) A (Builtin.Dict.quietEq<|.ref a) Q E s:=by have hT:=IsTupleKey.typeIs (knd:=intKind prog w) hk;unfold Builtin.Dict.quietEq;refine ag<|wpAny_specialOf hT F.slot_tuple_eq.lookup ?_;exact aA h
def FM{o:Addr}{s:Shared}{ys:List (bh×Addr×Value)}{Q:Array DictEntry->Shared->Prop}(ho:s.heap.get? o=some oo)(hd:oo.data=.dict WE epo)(he:WE.toList=ys.map (entryOfKey<|tupleKind<|intKind prog w))(his:∀x∈ys,(tupleKind<|intKind prog w).is s.heap x.1 x.2.1)(hh:(ys.map λy=>(tupleKind<|intKind prog w).hash y.1).Nodup)(h:Q WE s):wpAny (model prog w) A (Builtin.Dict.entriesForEmpty nm o) Q E s:=by
 unfold Builtin.Dict.entriesForEmpty;refine ag<|gK ho hd ?_;refine ag ?_;rw[<-Array.forIn_toList];refine wpAny_forIn_list _ (λbJ _ s'=>s'=s/\∀e∈bJ,e∈WE.toList) _ ?_ ?_ _ _ ⟨rfl,λe he=>he⟩
 ·rintro e bJ r s' ⟨rfl,XD⟩;have hm:=XD e bX;rw[he]at hm;obtain⟨y,hy,rfl⟩:=List.mem_map.mp hm;refine ag<|BM (his y hy) ?_;have hc:(WE.filter λx=>x.hash==(entryOfKey (tupleKind<|intKind prog w) y).hash).size<=1:=by rw[<-dv,Array.toList_filter,he,List.filter_map,aj];exact y7 (f:=λy:bh×Addr×Value=>(tupleKind<|intKind prog w).hash y.1) ys hh
  simp only[Bool.not_false,xn];rw[av<|by lia];exact aA ⟨rfl,λe' ZN=>XD e'<|aM _ ZN⟩
 ·rintro r s' ⟨rfl,_⟩;exact aA h
def DL{o:Addr}{Q:qh}{s:Shared}{ys:List (bh×Addr×Value)}(hoS:(o==sysModules)=false)(ho:s.heap.DictOfH (tupleKind<|intKind prog w) o ys)(hsz:ys.length<=sizeLine)(hh:(ys.map λy=>(tupleKind<|intKind prog w).hash y.1).Nodup)(h:∀h',h'.DictOfH (tupleKind<|intKind prog w) s.heap.objs.size ys->Heap.SameBut s.heap.objs.size (s.heap.push {cls:=.type "dict",data:=.dict #[]}) h'->Q (.ref s.heap.objs.size) {s with heap:=h'}):wpAny (model prog w) A (call (.type "dict") [.ref o]) Q E s:=by
 refine callType_codes (Q₁:=λobj s₁=>obj=.ref s.heap.objs.size/\s₁={s with heap:=s.heap.push {cls:=.type "dict",data:=.dict #[]}}) F.kt_called_dict (F.kt_typeCall_dict_1 _) F.entry_dict_init (kt_code_dict_new _ ⟨rfl,rfl⟩) ?_;rintro obj s₁ ⟨rfl,rfl⟩;obtain⟨oo,WE,epo,hoo,hco,XC,he,his,hn⟩:=ho;have S1:=aH hoo;have hdo:s.heap.objs.size≠o:=λe=>absurd S1 (by rw[e];exact eT _);have hnT:({s with heap:=s.heap.push {cls:=.type "dict",data:=.dict #[]}}:Shared).TypeIs (.ref s.heap.objs.size) "dict":=(Bv (knd:=tupleKind<|intKind prog w) s.heap).typeIs (s:={s with heap:=s.heap.push {cls:=.type "dict",data:=.dict #[]}});have WX:(s.heap.push {cls:=.type "dict",data:=.dict #[]}).get? o=some oo:=Heap.get?_push_of_some _ hoo;have ZI:∀x∈ys,(tupleKind<|intKind prog w).is (s.heap.push {cls:=.type "dict",data:=.dict #[]}) x.1 x.2.1:=λx hx=>by obtain⟨q,its,n,h1,h2,h3,h4⟩:=his x hx;exact⟨q,its,n,Heap.get?_push_of_some _ h1,h2,h3,h4⟩
 have hoT:({s with heap:=s.heap.push {cls:=.type "dict",data:=.dict #[]}}:Shared).TypeIs (.ref o) "dict":=⟨oo,WX,hco.1⟩;refine⟨hnT,F.args_dict_init_2 _ _,?_⟩;unfold Builtin.«dict.__init__»;refine ag ?_;unfold Builtin.Dict.selfAndRest;refine ag<|wpAny_notOrdered_dict hnT ?_;show wpAny _ _ (pure (s.heap.objs.size,[Value.ref o])) _ _ _;refine aA ?_;show wpAny _ _ (Builtin.Dict.updateFrom "dict.__init__" s.heap.objs.size (.ref o) [] .none) _ _ _;unfold Builtin.Dict.updateFrom;refine ag<|wpAny_typeOf hoT ?_;rw[av<|by decide];refine ag ?_;unfold Builtin.Dict.merge;refine ag ?_;unfold Builtin.Dict.readDirectly;refine ag<|Bs hoT isSubtype_dict_dict ?_;simp only[Bool.not_true,Bool.false_eq_true,Gc];refine ag<|wpAny_specialOf hoT F.slot_dict_iter.lookup<|aA ?_;simp only[IN,xn];refine ag<|aA ?_;unfold Builtin.Dict.mergeDict;rw[av<|by simpa using hdo];unfold Builtin.Dict.showsAll;rw[av<|by rw[hoS];exact ay];refine ag<|aA ?_;refine ag<|gK WX XC ?_;have hes:WE.size=ys.length:=size_of_entries he;have Wt:(s.heap.push {cls:=.type "dict",data:=.dict #[]}).get? s.heap.objs.size=some {cls:=.type "dict",data:=.dict #[]}:=Heap.get?_push_size _ rfl;dsimp only;cases ys with
 |nil=>
  have h0:WE=#[]:=by rw[Gi]at he;exact Array.toList_eq_nil_iff.mp he
  subst h0;rw[av<|by simp];refine ag<|CS WX XC ?_;refine ag<|gK WX XC ?_;refine ag ?_;rw[Std.Legacy.Range.forIn_eq_forIn_range'];show wpAny _ _ (pure PUnit.unit) _ _ _;refine aA<|aA ?_;show wpAny _ _ (Builtin.Dict.addKeywords s.heap.objs.size []>>=_) _ _ _;exact ag<|aA<|aA ⟨rfl,h _ (Bv s.heap)<|Heap.SameBut.refl _ _⟩
 |cons y ys=>
  have hf:(!(decide (WE.size<=8)&&WE.all λe=>(keyPart e.key).isSome))=true:=by
   have:WE.all (λe=>(keyPart e.key).isSome)=false:=by rw[<-Array.all_toList,he];rfl
   rw[this,Bw];rfl
  rw[ax hf];refine ag<|gK Wt rfl ?_;rw[ax<|by rfl];refine ag<|FM WX XC he ZI hh ?_;have UQ:WE≠#[]:=λz=>by rw[z]at he;cases he
  rw[ax<|by simpa using UQ];refine ag<|wpAny_updateDictKeysTo Wt rfl (aA ?_) (by lia);show wpAny _ _ (Builtin.Dict.addKeywords s.heap.objs.size []>>=_) _ _ _;refine ag<|aA<|aA ⟨rfl,h _ ⟨_,WE,_,Heap.get?_update_self _ Wt<|Obj.isFreed_of_dict<|Obj.data_mapDictKeys rfl _,?_,Obj.data_mapDictKeys rfl _,he,λx hx=>?_,hn⟩<|td ..⟩;·exact Obj.ExactDict.mapDictKeys (o:={cls:=.type "dict",data:=.dict #[]}) ⟨rfl,rfl,rfl⟩ _
  ·exact(tupleKind<|intKind prog w).keeps (ZI x hx) Wt rfl<|td ..
def qD(k:bh):Int:=reduceHash<|Builtin.Tuple.tupleHashOf<|k.map hashInt
def SO.hash{ys:List (bh×Addr×Value)}(r:SO xs ys):(ys.map λy=>(tupleKind<|intKind P w).hash y.1)=xs.map λy=>qD y.1:=by induction r with|nil=>rfl|cons h t ih=>rw[aP,aP,ih,h.1];rfl
def DM:gS X (.type "dict") (λvs H Q=>∃a xs,vs=[.ref a]/\Us H a xs/\(∀y∈xs,H y.2.1=some (.tup<|y.1.map V.int))/\(xs.map λy=>qD y.1).Nodup/\∀l,H l=none->Q (.ref l) (c6 H l<|.ext<|ei l xs)):=by intro pins s σ H vs us Q I r h;obtain⟨a,xs,rfl,hd,hk,hn,q⟩:=h;obtain⟨u,rfl,hu⟩:=kT r;obtain rfl:u=Value.ref a:=hu;obtain⟨z,hS,ys,kp,dd⟩:=sJ I (Us.is I hd) hk;have hb:sysModules<s.heap.objs.size:=ml (by decide) (show mainGlobals<s.heap.objs.size from(I.mod.glob.keeps I.bk).lt);refine DL hS dd (by rw[<-kp.len];exact z) (by rw[SO.hash kp];exact hn) λh' dn sb=>?_;have zz:ei s.heap.objs.size xs h':=AO (P:=X.prog) (w:=X.w) z (br.mpr<|cV<|bw hb) kp dn;exact⟨.ref s.heap.objs.size,_,I.laid (a:=s.heap.objs.size) (o:=.ext<|ei s.heap.objs.size xs) (t':=s.toks) (λb o e=>(sb.2 b<|bw<|aH e).trans<|Heap.get?_push_of_some _ e) (ar _)<|wR zz,rfl,q _<|I.SA.fresh<|ar _⟩
def EY(t:At X N sc)(bl:mf X sc x (.type "dict"))(ha:IK X ρ e kvs)(hn:(kvs.map λy=>qD y.1).Nodup)(Ut:Pl e:=by intro _ _;rfl):SW X ρ (.Call (.Name x p) [e] [] pos) kvs:=λB F H σ Q k' q=>.mk λpins s I=>mB DM (dS t bl.g) bl.m bl.v (ck aR eM<|Ut _ _) bl.n bl.d (Ut _ _) rfl pins s σ H Q I (ha B F H σ _ k' λa xs F' H' x' r1 r2=>by refine⟨a,xs,rfl,r1,λy hy=>x'.sub _ _<|r2.2 y hy,?_,λl hl=>q l xs F' _ ⟨x'.sub.trans<|aU hl,x'.sh.trans<|aU hl,x'.sf,x'.nw⟩ (x'.sh.free hl) aI (x'.sub.free hl) r2⟩;have:=r2.1;rw[this,cj]at hn;exact hn)
def VW(X:Cx)(q:Addr)(ρ:cA)(e:Expr)(b:Bool)(xs xs':aQ):Prop:=∀(B:B0)(F H:Hp)(σ:St)(Q:Bool->Hp->Prop)(us:dw),Uq X.K B q F us xs->Ok X.K B F H σ ρ->(∀F' H' Uj,Ext (Tv ⟨F,H⟩ q Uj) F' H'->Sh X.K F' Uj xs'->Q b H')->wT X e σ H Q
def Pz(X:Cx)(q:Addr)(ρ:cA)(tg e:Expr)(ds:aQ)(xs xs':aQ):Prop:=∀(B:B0)(F H:Hp)(σ:St)(R:It->Hp->Prop)(us:dw),Uq X.K B q F us xs->Ok X.K B F H σ ρ->(∀J F' H' Uj,Ext (Tv ⟨F,H⟩ q Uj) F' H'->Sh X.K F' Uj xs'->uh X.K J F' ds->R J H')->wI X tg e σ H R
section
variable {st:Stmt}{bJ:List Stmt}{ds:aQ}
def Uc.eq{d':D}(h:Uc X q ρ e d xs xs')(z:d=d'):Uc X q ρ e d' xs xs':=z▸h
def VW.eq{b':Bool}(h:VW X q ρ e b xs xs')(z:b=b'):VW X q ρ e b' xs xs':=z▸h
def Um.up{K:ce}(w:Um K B q F E xs' o)(s:Sj F F1):Um K (Tv B q u) q F1 E xs' o:=by
 cases o with
 |nx ρ=>exactλF2 H2 σ2 Wo k2 r2 s2=>w F2 H2 σ2 Wo (by rw[Tv.up]at k2;exact k2) r2<|s.trans s2
 |rt d=>exactλv F2 H2 Wo x2 r2 rv=>w v F2 H2 Wo (by rw[Tv.up]at x2;exact x2) r2 rv
def Kw{i j m:Int}{C:Int->Int->Prop}{g:Int->Int->Int}(ho:mK X (binaryOp op) (rI C λi j=>.int<|g i j))(ha:Uc X q ρ a (.int i) xs UH)(hb:Se X ρ b (.int j))(hc:C i j)(hm:g i j=m):Uc X q ρ (.BinOp a op b pos) (.int m) xs UH:=λB F H σ Q us l k w=>.mk λpins s I=>qw ho aR aR pins s σ H Q I (ha B F H σ _ us l k λx F1 H1 u1 x1 r1 rx=>hb (Tv B q u1) F1 H1 σ _ (k.Vc l x1) λy F2 H2 x2 ry=>by cases rx;cases ry;subst hm;exact⟨i,j,rfl,rfl,hc,w _ F2 H2 u1 (x1.trans x2) (r1.mono x2.sf)<|.int _⟩)
def sH(ha:Uc X q ρ a (.int i) xs UH)(hb:Se X ρ b (.int j))(h0:0<j):Uc X q ρ (.BinOp a .Mod b pos) (.int<|i%j) xs UH:=Kw Hr ha hb h0 rfl
def K3(ha:Uc X q ρ a (.int i) xs UH)(hb:Se X ρ b (.int j)):VW X q ρ (.Compare a [.Gt] [b] pos) (decide<|j<i) xs UH:=λB F H σ Q us l k w=>.mk λpins s I=>fY Hs aR aR (dF _ (by decide)<|by decide) pins s σ H Q I (ha B F H σ _ us l k λx F1 H1 u1 x1 r1 rx=>hb (Tv B q u1) F1 H1 σ _ (k.Vc l x1) λy F2 H2 x2 ry=>by cases rx;cases ry;exact⟨i,j,rfl,rfl,_,rfl,w F2 H2 u1 (x1.trans x2)<|r1.mono x2.sf⟩)
def MT(hc:VW X q ρ c true xs UH)(h:UZ X q ρ ss o UH xs'):rk X q ρ (.If c ss Uj pos) o xs xs':=λB F H σ E us l k w=>(.mk λpins s I=>uu lO dz dz pins s σ H E I (hc B F H σ _ us l k λF1 H1 u1 x1 r1=>by rw[ax rfl];exact h (Tv B q u1) F1 H1 σ E u1 ⟨aI,l.fr,r1⟩ (k.Vc l x1)<|Um.up w x1.sf))
def MU(hc:VW X q ρ c false xs UH)(h:UZ X q ρ Uj o UH xs'):rk X q ρ (.If c ss Uj pos) o xs xs':=λB F H σ E us l k w=>(.mk λpins s I=>uu lO dz dz pins s σ H E I (hc B F H σ _ us l k λF1 H1 u1 x1 r1=>by rw[av ay];exact h (Tv B q u1) F1 H1 σ E u1 ⟨aI,l.fr,r1⟩ (k.Vc l x1)<|Um.up w x1.sf))
def tN{pos:Pos}(t:At X N sc)(h:Uc X q ρ e d xs xs')(hg:Vi X ρ tg d ρ')(hs:swapsWithSole [tg] e pos.line X.env=pure false:=by rfl)(hw:swappedStores [tg] e (dE sc)=pure none:=by rfl)(h1:(assignEach [tg] X.env).map (·.2)=[assign tg X.env]:=by rfl):rk X q ρ (.Assign [tg] e pos) (.nx ρ') xs xs':=λB F H σ E us l k w=>(.mk λpins s I=>Hc aR Fx hs ((z8 (show X.env.scope=(dE sc).scope from t.eS)).trans hw) h1 pins s σ H E I (h B F H σ _ us l k λv F1 H1 u1 x1 r1 rv=>hg (Tv B q u1) F1 H1 σ v _ (k.Vc l x1) rv λF2 H2 σ2 k2 s2=>w F2 H2 σ2 u1 k2 (r1.mono s2)<|x1.sf.trans s2))
def DE(t:At X N sc)(bl:mf X sc "range" (.type "range"))(h:Uc X q ρ a (.int j) xs UH)(h1: -(2 ^ 62)<=j)(h2:j<2 ^ 62)(hs:Pl a:=by intro _ _;rfl):Pz X q ρ tg (.Call (.Name "range" p) [a] [] pos) (dY 0 j.toNat) xs UH:=λB F H σ R us l k w=>(.mk λpins s I=>y3 (dS t bl.g) bl.m (ck aR eM<|hs _ _) (hs _ _) pins s σ H R I (h B F H σ _ us l k λv F1 H1 u1 x1 r1 rv=>by cases rv;exact⟨j,rfl,h1,h2,w _ F1 H1 u1 x1 r1 HL⟩))
end
def MV(t:At X N sc)(hi:Pz X p ρ tg e ds xs0 xs)(h:Uo X p tg body ds ρ xs ρ' xs')(hs:∀x,foldedSetIterable e X.env x=pure x:=by intro _;rfl):rk X p ρ (.For tg e body [] pos) (.nx ρ') xs0 xs':=λB F H σ E us l k q=>(.mk λpins s I=>Db t.pass t.calm OP Fx dz hs pins s σ H E I (hi B F H σ _ us l k λJ F1 H1 u1 x1 rr1 J1=>by
  refine⟨λi m σ H=>∃ρ1 F' Yb UH,Ok X.K (Tv B p Yb) F' H σ ρ1/\Sh X.K F' Yb UH/\Sj F1 F'/\Uo X p tg body (ds.drop i) ρ1 UH ρ' xs'/\m=ds.length-i,⟨ds.length,ρ,F1,u1,xs,k.Vc l x1,rr1,.refl _,by simpa using h,by simp⟩,?_⟩;rintro i m σ H ⟨ρ1,F',Yb,UH,k',r',sf,run,rfl⟩;have J2:=J1 i F' H sf k'.sub;generalize e1:ds.drop i=bJ at run;cases run with
  |nil=>
   have hl:ds.length<=i:=by have:=aV List.length e1;rw[bP,iy]at this;lia
   exact .inl ⟨J2.2 hl,q F' H σ Yb k' r'<|x1.sf.trans sf⟩
  |@cons d0 X5 _ ρa ρb _ _ xsa _ g bd r=>obtain⟨hd,hr,S1⟩:=io e1;obtain⟨go,yl⟩:=J2.1 _ hd;refine .inr ⟨go,λσ' H'=>∃Va Wo,Ok X.K (Tv B p Wo) Va H' σ' ρb/\Sh X.K Va Wo xsa/\Sj F1 Va,λσ' H' ⟨Va,Wo,Xx,r'',UO⟩=>⟨ds.length-(i+1),by lia,_,Va,Wo,_,Xx,r'',UO,by rw[hr];exact r,rfl⟩,λx H' y=>?_⟩;obtain⟨F2,x2,rx⟩:=yl x H' y;refine g (Tv B p Yb) F2 H' σ x _ (k'.ext x2) rx λF3 H3 σ3 k3 s3=>bd (Tv B p Yb) F3 H3 σ3 _ Yb ⟨aI,l.fr,(r'.mono x2.sf).mono s3⟩ k3 λF4 H4 σ4 us4 k4 r4 s4=>⟨F4,us4,?_,r4,sf.trans (x2.sf.trans (s3.trans s4))⟩;rw[Tv.up]at k4;exact k4))
section
variable {S:LS}{st:Stmt}{bJ:List Stmt}{s s1 s':S.ds}{ds:aQ}
def EN(ha:Sz S X ρ a (.str z) s s1)(hb:Sz S X ρ b (.str w) s1 s')(hz:z.length+w.length<=sizeLine):Sz S X ρ (.BinOp a .Add b pos) (.str<|z++w) s s':=λB F H σ Q c l k q=>.mk λpins st I=>qw qK aR aR pins st σ H Q I (Fg ha hb l k λx y F' H' c' x' r' rx ry=>by cases rx;cases ry;exact⟨z,w,rfl,rfl,hz,q _ F' H' c' x' r'<|.str _⟩)
end
abbrev R9:=List<|bh×Addr×Value
abbrev Sa:=List<|bh×Str
structure Kd(K:ce)(x:Str)(st:Stmt)(f:Addr)(fd:FuncData):Prop where
 a:PySem.W.nsIn K mainGlobals x=some (some<|.ref f)
 F:V2 K x x st f fd
structure Bn(K:ce)(mg:rG)(x:Str)(f:Addr)(fd:FuncData)(ps:cH):Prop where
 m:mg x=some (.ref f)
 k:PySem.W.keepIn K (.ref f)=true
 b:Binds K fd ps []
section
variable {K:ce}{st:Stmt}
def kd{an:Option Addr}{kV doc pm S8 ct:Value}{x:Str}(a:PySem.W.nsIn K mainGlobals x=some (some<|.ref f))(l:K.lookup f=some ⟨oc,od,.func<|PySem.W.fnOf x x (iU st) (aD st) (ai st) .none kV doc pm an S8 ct,Xv⟩)(c:PySem.W.codeIn K S8 x=true)(k:PySem.W.keepIn K (.ref f)=true):Kd K x st f (PySem.W.fnOf x x (iU st) (aD st) (ai st) .none kV doc pm an S8 ct):=⟨a,HU l c k⟩
def Kd.b1(d:Kd K x st f fd)(X:K.In h)(G:h.Ns mainGlobals mg)(S:aJ N [p] (ai st))(hb:∀(kV doc pm:Value)(an:Option Addr)(S8 ct a:Value),bindArgs (PySem.W.fnOf x x (iU st) (aD st) (ai st) .none kV doc pm an S8 ct) ⟨[a],[]⟩=pure ([p].zip [a]):=by intros;rfl):Bn K mg x f fd [p]:=⟨aZ X G d.a,d.F.kp,d.F.binds λkV doc pm an S8 ct us hl=>match us,hl with |[a],_=>hb kV doc pm an S8 ct a⟩
def Kd.b2(d:Kd K x st f fd)(X:K.In h)(G:h.Ns mainGlobals mg)(S:aJ N [p,q] (ai st))(hb:∀(kV doc pm:Value)(an:Option Addr)(S8 ct a b:Value),bindArgs (PySem.W.fnOf x x (iU st) (aD st) (ai st) .none kV doc pm an S8 ct) ⟨[a,b],[]⟩=pure ([p,q].zip [a,b]):=by intros;rfl):Bn K mg x f fd [p,q]:=⟨aZ X G d.a,d.F.kp,d.F.binds λkV doc pm an S8 ct us hl=>match us,hl with |[a,b],_=>hb kV doc pm an S8 ct a b⟩
def Kd.b3(d:Kd K x st f fd)(X:K.In h)(G:h.Ns mainGlobals mg)(S:aJ N [p,q,r] (ai st))(hb:∀(kV doc pm:Value)(an:Option Addr)(S8 ct a b c:Value),bindArgs (PySem.W.fnOf x x (iU st) (aD st) (ai st) .none kV doc pm an S8 ct) ⟨[a,b,c],[]⟩=pure ([p,q,r].zip [a,b,c]):=by intros;rfl):Bn K mg x f fd [p,q,r]:=⟨aZ X G d.a,d.F.kp,d.F.binds λkV doc pm an S8 ct us hl=>match us,hl with |[a,b,c],_=>hb kV doc pm an S8 ct a b c⟩
def DefX.ca{C:aQ->D->Prop}(h:DefX P w K mg base k N sc X)(F:dQ P w K mg base ja j f fd ps (GN K C))(b:Bn K mg x f fd ps)(hj:j<=k:=by decide):EV.Callee X x C:=h.callee F hj b.m b.k b.b
def DefX.XS{C:aQ->fA->Prop}(h:DefX P w K mg base k N sc X)(F:dQ P w K mg base ja j f fd ps (P0 K C))(b:Bn K mg x f fd ps)(hj:j<=k:=by decide):EV.TY X x C:=h.XR F hj b.m b.k b.b
def DefX.zEA{C:D->aQ->aQ->Prop}(h:DefX P w K mg base k N sc X)(F:dQ P w K mg base ja j f fd ps (Jn K C))(b:Bn K mg x f fd ps)(hj:j<=k:=by decide):EV.UY X x C:=h.Xb F hj b.m b.k b.b
def DefX.V1{C:aQ->aQ->D->aQ->Prop}(h:DefX P w K mg base k N sc X)(F:dQ P w K mg base ja j f fd ps (Ef K C))(b:Bn K mg x f fd ps)(hj:j<=k:=by decide):EV.SX X x C:=h.XO F hj b.m b.k b.b
def DefX.Uy{C:cH->aQ->Int×aQ->D->Int×aQ->Prop}(h:DefX P w K mg base k N sc X)(F:dQ P w K mg base ja j f fd ps (Oy K C))(b:Bn K mg x f fd ps)(hj:j<=k:=by decide):EV.Si X x C:=h.XQ F hj b.m b.k b.b
def DefX.Z8{C:aQ->cH->Prop}(h:DefX P w K mg base k N sc X)(F:dQ P w K mg base ja j f fd ps (Jm K C))(b:Bn K mg x f fd ps)(hj:j<=k:=by decide):EV.Ud X x C:=h.Xa F hj b.m b.k b.b
end
def DefX.bt{K:ce}{x:Str}(h:DefX P w K mg base k N sc X)(m:mg x=none)(g:uY sc x:=by rfl)(v:bootBuiltins x=some u:=by rfl)(n:x≠"__name__":=by decide)(d:qF x:=by rfl):mf X sc x u:=⟨g,by rw[h.Up];exact m,v,n,d⟩
def iG{N P:cH}{sc:Scope}(h:sc.kind=.function/\sc.isCoroutine=false/\sc.isGenerator=false/\N.Nodup/\N.take P.length=P/\(∀x∈P,sc.names.lookup x=some .local\/sc.names.lookup x=some .cell)/\∀y∈sc.names,y.2≠.free):aJ N P sc:=⟨h.1,h.2.1,h.2.2.1,h.2.2.2.1,h.2.2.2.2.1,h.2.2.2.2.2.1,h.2.2.2.2.2.2⟩
abbrev Go(X:Cx)(N:cH)(st:Stmt)(C:aQ->D->Prop):Prop:=∀ds d,C ds d->Sf X (ds.map Sl.val++List.replicate (N.length-ds.length) Sl.un) (aD st) (.rt d)
abbrev Qd(X:Cx)(N:cH)(st:Stmt)(C:cH->aQ->Int×aQ->D->Int×aQ->Prop):Prop:=∀(r:jl),gH X.K r->∀ds s d s',C r.toks ds s d s'->Tx (Sk r) X (.val (.adr r.p)::ds.map Sl.val++List.replicate (N.length-(ds.length+1)) Sl.un) (aD st) (.rt d) s s'\/(d=.Sy/\∃ρ',Tx (Sk r) X (.val (.adr r.p)::ds.map Sl.val++List.replicate (N.length-(ds.length+1)) Sl.un) (aD st) (.nx ρ') s s')
abbrev Px(X:Cx)(N:cH)(st:Stmt)(C:aQ->aQ->D->aQ->Prop):Prop:=∀q ds xs d xs',C ds xs d xs'->UZ X q (.val (.TL q)::ds.map Sl.val++List.replicate (N.length-(ds.length+1)) Sl.un) (aD st) (.rt d) xs xs'
def Dg:mK X (binaryOp .Mult) (λx y H Q=>∃z n,x=.str z/\y=.int n/\MulOk z n/\Q (.str<|Txt.mul z n) H):=by intro pins s σ H x y v u Q I rx ry h;obtain⟨z,n,rfl,rfl,hz,q⟩:=h;obtain⟨t,rfl⟩:=rx;obtain⟨t',rfl⟩:=ry;exact SB.mul hz λt' k=>⟨.str<|Txt.mul z n,H,I.tok _,⟨_,rfl⟩,q⟩
def FK(xs:List (Array Nat)):∀acc:Array Nat,(xs.foldl (λx1 x2=>x1++x2) acc).toList=acc.toList++(xs.map Array.toList).flatten:=by induction xs with|nil=>intro acc;simp|cons x xs ih=>intro acc;rw[xA,ih];simp
def OX(u:bZ)(n:Nat):Txt.mul (S u) (n:Int)=S (List.replicate n u).flatten:=by
 have key:∀a b:Array Nat,a.toList=b.toList->(⟨a⟩:Str)=⟨b⟩:=λa b h=>by rw[Array.ext' h]
 unfold Txt.mul;split
 ·rename_i h;have:n=0:=by lia
  subst this;rfl
 ·split
  ·rename_i h1 h;rw[xB,jq,jq]at h;rcases h with h |h
   ·have:n=1:=by lia
    subst this;simp
   ·rw[cq]at h;have:u=[]:=bx h;subst this;simp
  ·refine key _ _ ?_;rw[FK,aO,List.map_replicate,show(S u).cps.toList=u from eD u];simp
def Kn{n:Nat}(ha:Se X ρ a (.str<|S u))(hb:Se X ρ b (.int (n:Int)))(hu:u.length<=10)(hn:n<=10000):Se X ρ (.BinOp a .Mult b pos) (.str<|S (List.replicate n u).flatten):=.of (qw Dg aR aR) λB F H σ Q k q=>two ha hb k λx y F' H' x' rx ry=>by cases rx;cases ry;exact⟨S u,n,rfl,rfl,mulOk_of 10 10000 (by rw[cq];exact hu) (by lia) (by lia) (by decide)<|by decide,by rw[OX];exact q _ F' H' x'<|.str _⟩
section
variable {ds:aQ}{st:Stmt}{bJ:List Stmt}
def YU(X:Cx)(ρ:cA)(st:List Stmt)(C:Addr)(ρ':cA):Prop:=∀(E:qh),PassesOwn (model X.prog X.w) X.A X.env E->∀(B:B0)(F H:Hp)(σ:St),Ok X.K B F H σ ρ->∀(pins:fR)(s:Shared),Inv X pins σ H s->(∀e s',XP X true pins B F ρ' C e s'->E e s')->dR X (execs st X.env) (λ_ _=>False) E s
def Pj(X:Cx)(ρ:cA)(st:Stmt)(C:Addr)(ρ':cA):Prop:=∀(E:qh),PassesOwn (model X.prog X.w) X.A X.env E->∀(B:B0)(F H:Hp)(σ:St),Ok X.K B F H σ ρ->∀(pins:fR)(s:Shared),Inv X pins σ H s->(∀e s',XP X true pins B F ρ' C e s'->E e s')->dR X (exec st X.env) (λ_ _=>False) E s
def Gs(h:Pj X ρ st C ρ'):YU X ρ (st::bJ) C ρ':=λE hp B F H σ k pins s I hE=>fh (aL (h E hp B F H σ k pins s I hE) (λ_ _ z=>z.elim) λ_ _ z=>z)
def Gr(t:At X N sc)(h1:SQ X ρ st (.nx ρ1))(h:YU X ρ1 bJ C ρ'):YU X ρ (st::bJ) C ρ':=λE hp B F H σ k pins s I hE=>fh (h1.go t k I λF' H' σ' s' k' sf I'=>h E hp B F' H' σ' k' pins s' I' λe UO z=>hE e UO<|z.later sf)
inductive Ub(X:Cx)(tg:Expr)(body:List Stmt)(C:Addr)(ρ':cA):aQ->cA->Prop where
 |here {d:D} {ds:aQ} {ρ ρ1:cA}:Vi X ρ tg d ρ1->DW X true ρ1 body C ρ'->Ub X tg body C ρ' (d::ds) ρ
 |next {d:D} {ds:aQ} {ρ ρ1 ρ2:cA}:Vi X ρ tg d ρ1->Sf X ρ1 body (.nx ρ2)->Ub X tg body C ρ' ds ρ2->Ub X tg body C ρ' (d::ds) ρ
def LX(t:At X N sc)(hi:WK X ρ tg e ds)(run:Ub X tg body C ρ' ds ρ)(hs:∀x,foldedSetIterable e X.env x=pure x:=by intro _;rfl):Pj X ρ (.For tg e body [] pos) C ρ':=by
 intro E hp B F H σ k pins s I hE
 have h1:=hi B F H σ (λJ H1=>∃F1,Ext ⟨F,H⟩ F1 H1/\uh X.K J F1 ds) k (λJ F' H' x j=>⟨F',x,j⟩) pins s I
 refine wpAny_For (aL h1 (λv s1 h=>aL h (λZr s2 h2=>?_) λ_ _ z=>t.no z) λ_ _ z=>t.no z) hs
 obtain⟨it,fp,tn,J,H',ee,I2,T,t0,f2,F1,x1,JO⟩:=h2
 subst ee
 have stat:∀{H':Hp},(∀b∈fp,H' b=none)->∀b∈fp,rj X pins H' b:=λhn b hb=>⟨hn b hb,(f2 b hb).2⟩
 refine codeAny_forLoop_any (λn s'=>∃i σ' H' F' ρ0,Inv X pins σ' H' s'/\tn i s'.heap/\(∀b∈fp,H' b=none)/\Ok X.K B F' H' σ' ρ0/\Sj F1 F'/\Ub X tg body C ρ' (ds.drop i) ρ0/\n=ds.length-i) ?_ ds.length ⟨0,σ,H',F1,ρ,I2,t0,λb hb=>(f2 b hb).1,k.ext x1,.refl _,by simpa using run,by simp⟩
 rintro n s3 ⟨i,σ3,H3,F3,ρ3,I3,st3,fr3,k3,Zc,r3,rfl⟩
 have J2:=JO i F3 H3 Zc k3.sub
 generalize e1:ds.drop i=bJ at r3
 have ZT:∀{d:D}{X5:aQ}{ρ1:cA},ds.drop i=d::X5->Vi X ρ3 tg d ρ1->(∀(ZY:fR)(F6 H6:Hp)(σ6:St)(s6:Shared),Ok X.K B F6 H6 σ6 ρ1->Sj F3 F6->Inv X (pins++ZY) σ6 H6 s6->
   (∀{σ7:St}{H7:Hp}{s7:Shared},Inv X (pins++ZY) σ7 H7 s7->Inv X pins σ7 H7 s7/\tn (i+1) s7.heap/\∀b∈fp,H7 b=none)->
   dR X (execs body X.env) (λf s₃=>match f with
     |.next=>∃m,m<ds.length-i/\∃i σ' H' F' ρ0,Inv X pins σ' H' s₃/\tn i s₃.heap/\(∀b∈fp,H' b=none)/\Ok X.K B F' H' σ' ρ0/\Sj F1 F'/\Ub X tg body C ρ' (ds.drop i) ρ0/\m=ds.length-i
     |.cont=>∃m,m<ds.length-i/\∃i σ' H' F' ρ0,Inv X pins σ' H' s₃/\tn i s₃.heap/\(∀b∈fp,H' b=none)/\Ok X.K B F' H' σ' ρ0/\Sj F1 F'/\Ub X tg body C ρ' (ds.drop i) ρ0/\m=ds.length-i
     |.brk=>False
     |.ret v=>False) (notedBy (model X.prog X.w) X.A X.env (cameBackBy (model X.prog X.w) X.A X.env E)) s6)->
   dR X (pyNext<|.ref it) (λr s₁=>match r with
    |none=>dR X (execs [] X.env) (λf s₃=>False) (notedBy (model X.prog X.w) X.A X.env<|cameBackBy (model X.prog X.w) X.A X.env E) s₁
    |some v=>dR X (letOwnedTupleGo tg (.ref it) v) (λ_ s₁'=>dR X (assign tg X.env v) (λ_ s₂=>dR X (execs body X.env) (λf s₃=>match f with
     |.next=>∃m,m<ds.length-i/\∃i σ' H' F' ρ0,Inv X pins σ' H' s₃/\tn i s₃.heap/\(∀b∈fp,H' b=none)/\Ok X.K B F' H' σ' ρ0/\Sj F1 F'/\Ub X tg body C ρ' (ds.drop i) ρ0/\m=ds.length-i
     |.cont=>∃m,m<ds.length-i/\∃i σ' H' F' ρ0,Inv X pins σ' H' s₃/\tn i s₃.heap/\(∀b∈fp,H' b=none)/\Ok X.K B F' H' σ' ρ0/\Sj F1 F'/\Ub X tg body C ρ' (ds.drop i) ρ0/\m=ds.length-i
     |.brk=>False
     |.ret v=>False) (notedBy (model X.prog X.w) X.A X.env (cameBackBy (model X.prog X.w) X.A X.env E)) s₂) (notedBy (model X.prog X.w) X.A X.env (cameBackBy (model X.prog X.w) X.A X.env E)) s₁') (notedBy (model X.prog X.w) X.A X.env (cameBackBy (model X.prog X.w) X.A X.env E)) s₁)
    (notedBy (model X.prog X.w) X.A X.env<|cameBackBy (model X.prog X.w) X.A X.env E) s3:=by
  intro d X5 ρ1 ed g bd
  obtain⟨hd,_,_⟩:=io ed
  obtain⟨go,yl⟩:=J2.1 _ hd
  refine aL (T.item X rfl rfl rfl (.inl t.calm) i pins s3 σ3 H3 _ I3 (stat fr3) st3 go) (λr s4 ⟨u,hr,h4⟩=>?_) λ_ _ z=>z
  subst hr
  refine aL h4 (λ_ s5 ⟨x,H5,I5,r5,y5,WN,ZX⟩=>?_) λ_ _ z=>z
  have I5':=I5.pinned (stat ZX)<|T.obj _ _ WN
  obtain⟨F2,x2,rx⟩:=yl x H5 y5
  refine aL (g B F2 H5 σ3 x (λσ6 H6=>∃F6,Ok X.K B F6 H6 σ6 ρ1/\Sj F2 F6) (k3.ext x2) rx (λF6 H6 σ6 k6 s6=>⟨F6,k6,s6⟩) (pins++tI fp s5.heap) s5 u I5' r5) (λ_ s6 ⟨σ6,H6,I6,F6,k6,Zb⟩=>?_) λ_ _ z=>t.no z
  refine bd (tI fp s5.heap) F6 H6 σ6 s6 k6 (x2.sf.trans Zb) I6 λ{σ7 H7 s7}I7=>⟨I7.T5,?_,λb hb=>?_⟩
  ·exact T.keep _ _ _ WN λb hb o e=>(I7.pin (b,o)<|aB _<|aB _<|ji hb e).1
  ·obtain⟨o,e,d⟩:=T.obj _ _ WN b hb
   exact(I7.pin (b,o)<|aB _<|aB _<|ji hb e).2.1
 cases r3 with
 |here g hx=>
  refine ZT e1 g λZY F6 H6 σ6 s6 k6 Zb I6 back=>?_
  refine aL (hx B F6 H6 σ6 k6 _ s6 I6) (λ_ _ z=>z.elim) λe' s' ⟨σ1,H1,s1,F',H',i1,o1,sf,th⟩=>?_
  exact hp _ _<|hE _ _ ⟨σ1,H1,s1,F',H',i1.T5,o1,x1.sf.trans<|Zc.trans<|Zb.trans sf,th⟩
 |@next d X5 _ ρ1 ρ2 g b r=>
  obtain⟨_,hr,S1⟩:=io e1
  refine ZT e1 g λZY F6 H6 σ6 s6 k6 Zb I6 back=>?_
  refine aL (b B F6 H6 σ6 {nx:=λσ' H'=>∃F',Ok X.K B F' H' σ' ρ2/\Sj F6 F',rt:=λ_ _=>False} k6 (λF' H' σ' k' sf=>⟨F',k',sf⟩) (pins++ZY) s6 I6) (λf s7 z=>?_) λ_ _ z=>t.no z
  cases f with
  |next=>
   obtain⟨σ7,H7,I7,F7,k7,sf7⟩:=z
   obtain⟨j1,j2,j3⟩:=back I7
   exact⟨ds.length-(i+1),by lia,i+1,σ7,H7,F7,ρ2,j1,j2,j3,k7,Zc.trans<|Zb.trans sf7,by rw[hr];exact r,rfl⟩
  |brk=>obtain⟨_,_,_,z⟩:=z;exact z.elim
  |cont=>obtain⟨_,_,_,z⟩:=z;exact z.elim
  |ret u=>obtain⟨_,_,_,_,_,z⟩:=z;exact z.elim
end
section
variable {K:ce}{st:Stmt}
def DefX.YR{R:aQ->Prop}(h:DefX P w K mg base k N sc X)(F:dQ P w K mg base (yf P w) j f fd ps (CP K C R))(b:Bn K mg x f fd ps)(hj:j<=k:=by decide):jB X x C R:=h.XN F hj b.m b.k b.b
end
def YW(S:LS)(X:Cx)(pins:fR)(B:B0)(F:Hp)(C:Addr)(e:Value)(s':Shared):Prop:=∃(σ1:St)(H1:Hp)(s1:Shared)(ρ':cA)(F' H':Hp)(c':S.cs),Inv X pins σ1 H1 s1/\Ok X.K (Sx S B c') F' H' σ1 ρ'/\Sj F F'/\Br X true H1 s1 H' C e s'
def DX(S:LS)(X:Cx)(ρ:cA)(e:Expr)(C:Addr)(s:S.ds):Prop:=∀(B:B0)(F H:Hp)(σ:St)(c:S.cs),Ln S X.K B F c s->Ok X.K B F H σ ρ->∀(pins:fR)(st:Shared),Inv X pins σ H st->dR X (eval e X.env) (λ_ _=>False) (YW S X pins B F C) st
def mJ(S:LS)(X:Cx)(ρ:cA)(T1:List Stmt)(C:Addr)(s:S.ds):Prop:=∀(E:qh),PassesOwn (model X.prog X.w) X.A X.env E->∀(B:B0)(F H:Hp)(σ:St)(c:S.cs),Ln S X.K B F c s->Ok X.K B F H σ ρ->∀(pins:fR)(st:Shared),Inv X pins σ H st->(∀e s',YW S X pins B F C e s'->E e s')->dR X (execs T1 X.env) (λ_ _=>False) E st
def F8(S:LS)(X:Cx)(ρ:cA)(sm:Stmt)(C:Addr)(s:S.ds):Prop:=∀(E:qh),PassesOwn (model X.prog X.w) X.A X.env E->∀(B:B0)(F H:Hp)(σ:St)(c:S.cs),Ln S X.K B F c s->Ok X.K B F H σ ρ->∀(pins:fR)(st:Shared),Inv X pins σ H st->(∀e s',YW S X pins B F C e s'->E e s')->dR X (exec sm X.env) (λ_ _=>False) E st
section
variable {S:LS}{st:Stmt}{bJ:List Stmt}{s s1 s2 s':S.ds}{ds:aQ}{c:S.cs}
def YW.back(h:YW S X pins (Sx S B c) F1 C v w')(sf:Sj F F1):YW S X pins B F C v w':=by obtain⟨σ1,H1,s1,ρ',F',H',c',i,k,q,th⟩:=h;rw[Sx.up]at k;exact⟨σ1,H1,s1,ρ',F',H',c',i,k,sf.trans q,th⟩
def Sz.go{Q:qh}(t:At X N sc)(h:Sz S X ρ e d s s1)(l:Ln S X.K B F c s)(k:Ok X.K B F H σ ρ)(I:Inv X pins σ H w)(q:∀v u F' H' c' w',Ext (Sx S ⟨F,H⟩ c') F' H'->S.rep X.K F' c' s1->Rep X.K F' v d->RelV v u->Inv X pins σ H' w'->Q u w'):dR X (eval e X.env) Q E w:=aL (h B F H σ (λv H'=>∃F' c',Ext (Sx S ⟨F,H⟩ c') F' H'/\S.rep X.K F' c' s1/\Rep X.K F' v d) c l k (λv F' H' c' x r rv=>⟨F',c',x,r,rv⟩) pins w I) (λu w' ⟨v,H',I',r,F',c',x,rr,rv⟩=>q v u F' H' c' w' x rr rv r I') λ_ _ z=>t.no z
def SE.go(t:At X N sc)(h:SE S X ρ e k0 s s1)(l:Ln S X.K B F c s)(k:Ok X.K B F H σ ρ)(I:Inv X pins σ H w){Q:Bool->Shared->Prop}(q:∀F' H' c' w',Ext (Sx S ⟨F,H⟩ c') F' H'->S.rep X.K F' c' s1->Inv X pins σ H' w'->Q k0 w'):dR X (isTrue e X.env<|eval e X.env) Q E w:=aL (h B F H σ (λb H'=>b=k0/\∃F' c',Ext (Sx S ⟨F,H⟩ c') F' H'/\S.rep X.K F' c' s1) c l k (λF' H' c' x r=>⟨rfl,F',c',x,r⟩) pins w I) (λu w' ⟨H',I',e,F',c',x,r⟩=>by subst e;exact q F' H' c' w' x r I') λ_ _ z=>t.no z
def Ur.go(t:At X N sc)(h:Ur S X ρ st (.nx ρ1) s s1)(l:Ln S X.K B F c s)(k:Ok X.K B F H σ ρ)(I:Inv X pins σ H w){Q:Flow->Shared->Prop}(q:∀F' H' σ' c' w',Ok X.K (Sx S B c') F' H' σ' ρ1->S.rep X.K F' c' s1->Sj F F'->Inv X pins σ' H' w'->Q .next w'):dR X (exec st X.env) Q E w:=by
 refine aL (h B F H σ {nx:=λσ' H'=>∃F' c',Ok X.K (Sx S B c') F' H' σ' ρ1/\S.rep X.K F' c' s1/\Sj F F',rt:=λ_ _=>False} c l k (λF' H' σ' c' k' r sf=>⟨F',c',k',r,sf⟩) pins w I) (λf w' z=>?_) λ_ _ z=>t.no z;cases f with
 |next=>obtain⟨σ',H',I',F',c',k',r,sf⟩:=z;exact q F' H' σ' c' w' k' r sf I'
 |brk=>obtain⟨_,_,_,z⟩:=z;exact z.elim
 |cont=>obtain⟨_,_,_,z⟩:=z;exact z.elim
 |ret u=>obtain⟨_,_,_,_,_,z⟩:=z;exact z.elim
def Tx.go(t:At X N sc)(h:Tx S X ρ T1 (.nx ρ1) s s1)(l:Ln S X.K B F c s)(k:Ok X.K B F H σ ρ)(I:Inv X pins σ H w){Q:Flow->Shared->Prop}(q:∀F' H' σ' c' w',Ok X.K (Sx S B c') F' H' σ' ρ1->S.rep X.K F' c' s1->Sj F F'->Inv X pins σ' H' w'->Q .next w'):dR X (execs T1 X.env) Q E w:=by
 refine aL (h B F H σ {nx:=λσ' H'=>∃F' c',Ok X.K (Sx S B c') F' H' σ' ρ1/\S.rep X.K F' c' s1/\Sj F F',rt:=λ_ _=>False} c l k (λF' H' σ' c' k' r sf=>⟨F',c',k',r,sf⟩) pins w I) (λf w' z=>?_) λ_ _ z=>t.no z;cases f with
 |next=>obtain⟨σ',H',I',F',c',k',r,sf⟩:=z;exact q F' H' σ' c' w' k' r sf I'
 |brk=>obtain⟨_,_,_,z⟩:=z;exact z.elim
 |cont=>obtain⟨_,_,_,z⟩:=z;exact z.elim
 |ret u=>obtain⟨_,_,_,_,_,z⟩:=z;exact z.elim
def Vw.z(h:Vw X true ρ st C ρ'):F8 S X ρ st C s:=λE hp B F H σ c l k pins w I hE=>aL (h B F H σ k pins w I) (λ_ _ z=>z) λv w' ⟨σ1,H1,s1,F',H',i,o,sf,th⟩=>hE v w' ⟨σ1,H1,s1,ρ',F',H',c,i,by rw[Sx.same l.st];exact o,sf,th⟩
def YV.z(h:YV X true ρ e C ρ'):DX S X ρ e C s:=λB F H σ c l k pins w I=>aL (h B F H σ k pins w I) (λ_ _ z=>z) λv w' ⟨σ1,H1,s1,F',H',i,o,sf,th⟩=>⟨σ1,H1,s1,ρ',F',H',c,i,by rw[Sx.same l.st];exact o,sf,th⟩
def bG(h:F8 S X ρ st C s):mJ S X ρ (st::bJ) C s:=λE hp B F H σ c l k pins w I hE=>fh (aL (h E hp B F H σ c l k pins w I hE) (λ_ _ z=>z.elim) λ_ _ z=>z)
def de(t:At X N sc)(h1:Ur S X ρ st (.nx ρ1) s s1)(h:mJ S X ρ1 bJ C s1):mJ S X ρ (st::bJ) C s:=λE hp B F H σ c l k pins w I hE=>fh (h1.go t l k I λF' H' σ' c' w' k' r sf I'=>h E hp (Sx S B c') F' H' σ' c' (l.up r) k' pins w' I' λv XX z=>hE v XX<|z.back sf)
def tq(t:At X N sc)(hc:SE S X ρ cd true s s1)(h:mJ S X ρ ss C s1):F8 S X ρ (.If cd ss us pos) C s:=λE hp B F H σ c l k pins w I hE=>wpAny_If (hc.go t l k I λF' H' c' w' x r I'=>h E hp (Sx S B c') F' H' σ c' (l.up r) (k.T8 l x) pins w' I' λv XX z=>hE v XX<|z.back x.sf)
def CV(t:At X N sc)(hc:SE S X ρ cd false s s1)(h:mJ S X ρ us C s1):F8 S X ρ (.If cd ss us pos) C s:=λE hp B F H σ c l k pins w I hE=>wpAny_If (hc.go t l k I λF' H' c' w' x r I'=>h E hp (Sx S B c') F' H' σ c' (l.up r) (k.T8 l x) pins w' I' λv XX z=>hE v XX<|z.back x.sf)
def gU{pos:Pos}(h:DX S X ρ e C s)(hs:swapsWith e none pos.line X.env=pure false:=by rfl):F8 S X ρ (.Expr e pos) C s:=λE hp B F H σ c l k pins w I hE=>R3 (aL (h B F H σ c l k pins w I) (λ_ _ z=>z.elim) hE) I.quiet hs
def LW(t:At X N sc)(ha:Sz S X ρ a d s s1)(hb:DX S X ρ b C s1):DX S X ρ (.BinOp a op b pos) C s:=λB F H σ c l k pins w I=>wpAny_BinOp (ha.go t l k I λv u F' H' c' w' x r rv ru I'=>aL (hb (Sx S B c') F' H' σ c' (l.up r) (k.T8 l x) pins w' I') (λ_ _ z=>z.elim) λv' XX z=>z.back x.sf)
inductive oW(S:LS)(X:Cx)(cd:Expr)(body:List Stmt)(C:Addr):Nat->cA->S.ds->Prop where
 |here {n:Nat} {ρ:cA} {s s1:S.ds}:SE S X ρ cd true s s1->mJ S X ρ body C s1->oW S X cd body C n ρ s
 |next {n:Nat} {ρ ρ1:cA} {s s1 s2:S.ds}:SE S X ρ cd true s s1->Tx S X ρ body (.nx ρ1) s1 s2->oW S X cd body C n ρ1 s2->oW S X cd body C (n+1) ρ s
def vw(t:At X N sc)(h:∃n,oW S X cd body C n ρ s):F8 S X ρ (.While cd body [] pos) C s:=λE hp B F H σ c l k pins w I hE=>by
 obtain⟨n,h⟩:=h;refine wpAny_While<|codeAny_whileLoop (λm w'=>∃σ' H' F' c' ρ1 s1,Inv X pins σ' H' w'/\Ok X.K (Sx S B c') F' H' σ' ρ1/\S.rep X.K F' c' s1/\Sj F F'/\oW S X cd body C m ρ1 s1) ?_ n ⟨σ,H,F,c,ρ,s,I,by rw[Sx.same l.st];exact k,l.rep,.refl _,h⟩;rintro m w1 ⟨σ1,H1,F1,c1,ρ1,d1,I1,k1,r1,sf1,run⟩;have l1:Ln S X.K (Sx S B c1) F1 c1 d1:=l.up r1;cases run with
 |here hc hx=>refine hc.go t l1 k1 I1 λF2 H2 c2 w2 x2 r2 I2=>?_;rw[ax rfl];exact gy hp (aL (hx E hp (Sx S (Sx S B c1) c2) F2 H2 σ1 c2 (l1.up r2) (k1.T8 l1 x2) pins w2 I2 λv XX z=>hE v XX<|(z.back x2.sf).back sf1) (λ_ _ z=>z.elim) λ_ _ z=>z)
 |@next n0 _ ρa _ sa sb hc hb r=>refine hc.go t l1 k1 I1 λF2 H2 c2 w2 x2 r2 I2=>?_;rw[ax rfl];have k2:=k1.T8 l1 x2;rw[Sx.up]at k2;refine hb.go t (l.up r2) k2 I2 λF3 H3 σ3 c3 w3 k3 r3 Zc I3=>?_;rw[Sx.up]at k3;exact⟨n0,fB _,σ3,H3,F3,c3,ρa,sb,I3,k3,r3,sf1.trans<|x2.sf.trans Zc,r⟩
def yk{apos:Pos}{Sr:Pos}(t:At X N sc)(ho:∀(B:B0)(F H:Hp)(σ:St)(c:S.cs),Ln S X.K B F c s->Ok X.K B F H σ ρ->wE X o σ H (λv H1=>H1=H/\NW X.K "list" v H))(he:DX S X ρ e C s)(UX:attributeBase o "append" X.env (eval o X.env)=eval o X.env:=by rfl)(hs:Fe e [] X.env:=by rfl)(S4:(apos.endLine==Sr.line)=true:=by rfl)(U2:vv Sr [] X.env:=by rfl)(Vl:Jc Sr [e] X.env:=by rfl):DX S X ρ (.Call (.Attribute o "append" apos) [e] [] Sr) C s:=λB F H σ c l k pins w I=>by refine CI UX Vl S4 rfl (aL ((ho B F H σ c l k) pins w I) (λv w1 ⟨x,H1,I1,r1,eH,ty⟩=>?_) λ_ _ z=>t.no z);subst eH;obtain⟨h1,h2⟩:=C1 I1 r1 ty;refine⟨"list","list.append",dL,kl,kj,h1,h2,?_⟩;rw[hs];refine n9 (by show(false||(backTo Sr<|starEach [] X.env).any (·.1))=false;rw[U2];rfl)<|rE ?_;exact KZ (aL (he B F H1 σ c l k pins w1 I1) (λ_ _ z=>z.elim) λ_ _ z=>z)
def Ho{ρ:cA}(t:At X N sc)(i:Nat)(hr:ρ[i]?=some (.own xs))(hN:N[i]?=some y:=by rfl)(hv:fO sc y=true:=by rfl)(hx:cZ y=true:=by rfl):∀(B:B0)(F H:Hp)(σ:St)(c:S.cs),Ln S X.K B F c s->Ok X.K B F H σ ρ->wE X (.Name y p) σ H (λv H1=>H1=H/\NW X.K "list" v H):=λB F H σ c l k=>tJ t hr hN hv hx k λq vs h1 h2 h3=>⟨rfl,.inl ⟨rfl,_,Ts.of h2⟩⟩
end
def VI:LS where
 cs:=Unit
 ds:=Unit
 ov _ _:=none
 YO _ _ _ h:=h
 rep _ _ _ _:=True
 mono:=λ_ h=>h
def Rz(B:B0)(c:VI.cs):Sx VI B c=B:=Sx.same (S:=VI) λa u h=>nomatch h
def RV{K:ce}:Ln VI K B F () ():=⟨(λa u h=>nomatch h),(λa u h=>nomatch h),trivial⟩
section
variable {ds:aQ}{s s1 s':Int×aQ}{bJ:List Stmt}
def Ki{P:Program}(Ti:P.given.tree=none){w:World}{K:ce}{mg:rG}{base:Heap}{x qual:Str}{st:Stmt}{f:Addr}{fd:FuncData}{N ps:cH}{k:Nat}{C:Addr}{R:aQ->Prop}(Fn:V2 K x qual st f fd)(S:aJ N ps (ai st))(len:∀ds,R ds->ds.length=ps.length)(body:∀X,DefX P w K mg base k N (ai st) X->∀ds,R ds->mJ VI X (ds.map Sl.val++List.replicate (N.length-ds.length) Sl.un) (aD st) C ()):dQ P w K mg base (yf P w) (k+1) f fd ps (CP K C R):=by
 obtain⟨oc,od,kV,doc,pm,an,S8,ct,Xv,rfl,lk,Wu⟩:=Fn.ex;refine HX lk Wu S (λvs H Q E h=>?_) λA outer s H vs Q E hr h=>?_;·obtain⟨F',ds,sub,r,hR,q⟩:=h;rw[r.length];exact len ds hR
 ·obtain⟨F',ds,sub,r,hR,q⟩:=h;refine⟨_,dz,?_⟩;have hx:DefX P w K mg base k N (ai st) (mI (yf P w) P w K mg base N qual (ai st) f S8 A outer s H E).U7:=⟨⟨rfl,rfl,rfl,S.nd,rfl,hr.units,hr.UE,Ti,⟨_,_,rfl,S.gen,S.co,rfl,rfl⟩⟩,rfl,rfl,rfl,rfl,rfl,hr,⟨λ_=>rfl⟩,rfl,rfl⟩;have hb:=body _ hx ds hR;have hk:Ok K ⟨F',H⟩ F' H (start N vs) (ds.map Sl.val++List.replicate (N.length-ds.length) Sl.un):=by unfold start;rw[r.length];exact iN sub r _
  refine .mk λpins s0 I0=>?_;refine aL (hb _ PassesOwn.leaving ⟨F',H⟩ F' H _ () RV hk pins s0 (I0.Vb _) λe' s' z=>?_) (λ_ _ z=>z.elim) λe' s' z=>z;obtain⟨σ1,H1,s1,ρ',F2,H2,c2,I1,k1,sf,th⟩:=z;rw[Rz]at k1;have hE:E (.ref C) none H2:=q F2 H2 k1.toExt;cases th with
  |ZZ fl=>exact aL (za (X:=(mI (yf P w) P w K mg base N qual (ai st) f S8 A outer s H E).U7) (E:=λe' UO=>yf P w outer H s E e' UO) I1 rfl rfl rfl fl) (λ_ _ z=>⟨C,H2,hE,z⟩) λ_ _ z=>z
  |made _ eh ee mm os gens=>subst eh;subst ee;exact aL (wm (X:=(mI (yf P w) P w K mg base N qual (ai st) f S8 A outer s H E).U7) (E:=λe' UO=>yf P w outer H s E e' UO) I1 rfl rfl rfl mm os gens) (λ_ _ z=>⟨C,_,hE,z⟩) λ_ _ z=>z
def Fo(K:ce)(C:Addr)(R:cH->aQ->Int×aQ->Prop):Sp:=λvs H _ E=>∃(r:jl)(F:Hp)(ds:aQ)(c:Int×dw)(s:Int×aQ),Sj F H/\gH K r/\(∀a u,(Sk r).ov c a=some u->H a=some u)/\(∀a u,(Sk r).ov c a=some u->F a=none)/\(Sk r).rep K F c s/\Sh K F vs (.adr r.p::ds)/\R r.toks ds s/\∀F' H' c',Ext (Sx (Sk r) ⟨F,H⟩ c') F' H'->E (.ref C) none H'
def fQ(X:Cx)(x:Str)(C:Addr)(R:cH->aQ->Int×aQ->Prop):Prop:=∃(f:Addr)(fd:FuncData)(ps:cH)(k:Nat),dQ X.prog X.w X.K X.mg X.base (yf X.prog X.w) k f fd ps (Fo X.K C R)/\SR k X.A/\X.mg x=some (.ref f)/\PySem.W.keepIn X.K (.ref f)=true/\Binds X.K fd ps []
def Kj{P:Program}(Ti:P.given.tree=none){w:World}{K:ce}{mg:rG}{base:Heap}{x qual:Str}{st:Stmt}{f:Addr}{fd:FuncData}{N ps:cH}{k:Nat}{C:Addr}{R:cH->aQ->Int×aQ->Prop}(Fn:V2 K x qual st f fd)(S:aJ N ps (ai st))(len:∀ts ds s,R ts ds s->ds.length+1=ps.length)(body:∀X,DefX P w K mg base k N (ai st) X->∀(r:jl),gH X.K r->∀ds s,R r.toks ds s->mJ (Sk r) X (.val (.adr r.p)::ds.map Sl.val++List.replicate (N.length-(ds.length+1)) Sl.un) (aD st) C s):dQ P w K mg base (yf P w) (k+1) f fd ps (Fo K C R):=by
 obtain⟨oc,od,kV,doc,pm,an,S8,ct,Xv,rfl,lk,Wu⟩:=Fn.ex;refine HX lk Wu S (λvs H Q E h=>?_) λA outer s H vs Q E hr h=>?_;·obtain⟨r,F',ds,c,s,sub,ok,h1,h2,h3,rv,hR,q⟩:=h;rw[rv.length];exact len r.toks ds s hR
 ·obtain⟨r,F',ds,c,s1,sub,ok,h1,h2,h3,rv,hR,q⟩:=h;refine⟨_,dz,?_⟩;have hx:DefX P w K mg base k N (ai st) (mI (yf P w) P w K mg base N qual (ai st) f S8 A outer s H E).U7:=⟨⟨rfl,rfl,rfl,S.nd,rfl,hr.units,hr.UE,Ti,⟨_,_,rfl,S.gen,S.co,rfl,rfl⟩⟩,rfl,rfl,rfl,rfl,rfl,hr,⟨λ_=>rfl⟩,rfl,rfl⟩;have hb:=body _ hx r ok ds s1 hR;have hk:Ok K ⟨F',H⟩ F' H (start N vs) (.val (.adr r.p)::ds.map Sl.val++List.replicate (N.length-(ds.length+1)) Sl.un):=by unfold start;rw[rv.length];exact iN sub rv _
  refine .mk λpins s0 I0=>?_;refine aL (hb _ PassesOwn.leaving ⟨F',H⟩ F' H _ c ⟨h1,h2,h3⟩ hk pins s0 (I0.Vb _) λe' s' z=>?_) (λ_ _ z=>z.elim) λe' s' z=>z;obtain⟨σ1,H1,s1,ρ',F2,H2,c2,I1,k1,sf,th⟩:=z;have hE:E (.ref C) none H2:=q F2 H2 c2 k1.toExt;cases th with
  |ZZ fl=>exact aL (za (X:=(mI (yf P w) P w K mg base N qual (ai st) f S8 A outer s H E).U7) (E:=λe' UO=>yf P w outer H s E e' UO) I1 rfl rfl rfl fl) (λ_ _ z=>⟨C,H2,hE,z⟩) λ_ _ z=>z
  |made _ eh ee mm os gens=>subst eh;subst ee;exact aL (wm (X:=(mI (yf P w) P w K mg base N qual (ai st) f S8 A outer s H E).U7) (E:=λe' UO=>yf P w outer H s E e' UO) I1 rfl rfl rfl mm os gens) (λ_ _ z=>⟨C,_,hE,z⟩) λ_ _ z=>z
def DefX.zD9{K:ce}{x:Str}{R:cH->aQ->Int×aQ->Prop}(h:DefX P w K mg base k N sc X)(F:dQ P w K mg base (yf P w) j f fd ps (Fo K C R))(hj:j<=k)(hm:mg x=some (.ref f))(hk:PySem.W.keepIn K (.ref f)=true)(hb:Binds K fd ps []):fQ X x C R:=by obtain⟨h0,rfl,rfl,rfl,rfl,rfl,hr,_⟩:=h;exact⟨f,fd,ps,j,F,hr.mono hj,hm,hk,hb⟩
def iC(t:At X N sc)(ok:gH X.K r){R:cH->aQ->Int×aQ->Prop}(h:fQ X x C R)(ha:IL (Sk r) X ρ (e::es) (.adr r.p::ds) s s1)(hR:R r.toks ds s1)(hg:uY sc x:=by rfl)(T7:qF x:=by rfl):DX (Sk r) X ρ (.Call (.Name x p) (e::es) [] pos) C s:=by
 obtain⟨f,fd,ps,k,Fn,hr,hm,hk,hb⟩:=h;intro B F H σ c l k0 pins st I;refine jb<|nc I (dS t hg) hm ?_ T7;refine rC (h₀:=X.base) I.ok.mod.WW hk (aL (ha.2 B F H σ (λvs H1=>∃F1 c1,Ext (Sx (Sk r) ⟨F,H⟩ c1) F1 H1/\(Sk r).rep X.K F1 c1 s1/\Sh X.K F1 vs (.adr r.p::ds)) c l k0 (λvs F1 H1 c1 x1 r1 rv=>⟨F1,c1,x1,r1,rv⟩) pos pins st I) (λus Y9 z=>?_) λ_ _ z=>t.no z) (ha.1.1 _ _)<|VG.any ha.1.2;obtain⟨vs,H1,I1,rl,F1,c1,x1,r1,rv⟩:=z;refine⟨I1.UP,?_⟩;have k1:=k0.T8 l x1;have l1:Ln (Sk r) X.K (Sx (Sk r) B c1) F1 c1 s1:=l.up r1;have Wj:Fo X.K C R vs H1 (λ_ _=>False) (λcc _ H2=>cc=.ref C/\∃F2 c2,Ext (Sx (Sk r) ⟨F1,H1⟩ c2) F2 H2):=⟨r,F1,ds,c1,s1,k1.sub,ok,l1.now k1,l1.ff k1,r1,rv,hR,λF2 H2 c2 x2=>⟨rfl,F2,c2,x2⟩⟩;have hl:us.length=ps.length:=by rw[<-rl.length];exact Fn.len _ _ _ _ Wj
 refine R1 (uj (Fn.run X.A X.stack Y9 H1 ⟨us,[]⟩ us vs _ _ hr I1.XH (by have:=hb Y9 us I1.UP (by rw[bC];exact hl);rw[bC]at this;exact this) rl Wj) λr' s' hq=>?_);cases r' with
 |error e'=>have Xy:yf X.prog X.w X.stack H1 Y9 (λcc _ H2=>cc=Value.ref C/\∃F2 c2,Ext (Sx (Sk r) ⟨F1,H1⟩ c2) F2 H2) e' s':=hq;obtain⟨C',H2,⟨hC,F2,c2,x2⟩,fl⟩:=Xy;cases hC;have k2:=k1.T8 l1 x2;have eu:Sx (Sk r) (Sx (Sk r) B c1) c2=Sx (Sk r) B c2:=Sx.up (S:=Sk r);rw[eu]at k2;exact⟨σ,H1,Y9,ρ,F2,H2,c2,I1,k2,x1.sf.trans x2.sf,.ZZ fl⟩
 |ok fl=>
  cases fl with
  |ret u=>obtain⟨_,_,_,_,_,_,_,z⟩:=(show CE X.stack X.prog X.w H1 Y9 (λ_ _=>False) u s' from hq);exact z
  |next=>exact False.elim hq|brk=>exact False.elim hq
  |cont=>exact False.elim hq
def JB{ρ:cA}(t:At X N sc)(ok:gH X.K r)(i:Nat)(hr:ρ[i]?=some (.val<|.adr r.p))(hN:N[i]?=some x:=by rfl)(hv:fO sc x=true:=by rfl)(hx:cZ x=true:=by rfl)(hb:attributeBase (.Name x py) "steps" X.env (eval (.Name x py) X.env)=eval (.Name x py) X.env:=by rfl):∀(B:B0)(F H:Hp)(σ:St)(c:(Sk r).cs),Ln (Sk r) X.K B F c s->Ok X.K B F H σ ρ->wE X (.Attribute (.Name x py) "steps" ps) σ H (λv H1=>H1=H/\NW X.K "list" v H):=λB F H σ c l k=>.mk λpins st I=>v8 aR hb pins st σ H _ I<|FZ t hr hN hv hx k ⟨r.p,r.C,r.dx,_,.ref r.q,rfl,l.now k _ _ Sk.WJ,ok.cls,ok.n3,rfl,rfl,.inl ⟨rfl,_,Ts.of<|l.now k _ _<|Sk.Xh ok.ne⟩⟩
def Jd{pos:Pos}[Vh X](t:At X N sc)(i:Nat){C0:aQ->cH->Prop}(h:Ud X x C0)(ha:S3 X ρ (e::es) ds)(hC:C0 ds toks)(VQ:∀r:jl,gH X.K r->r.toks=toks->mJ (Sk r) X (ρ.set i<|.val<|.adr r.p) bJ C (0,[]))(hg:uY sc x:=by rfl)(T7:qF x:=by rfl)(hi:N[i]?=some y:=by rfl)(hx:nJ sc y=true:=by rfl)(hs:swapsWith (.Call (.Name x p) (e::es) [] Sr) (some<|.Name y pos') pos.line X.env=pure false:=by rfl):mJ VI X ρ (.Assign [.Name y pos'] (.Call (.Name x p) (e::es) [] Sr) pos::bJ) C ():=λE hp B F0 H σ c0 l0 k pins s I hE=>by
 obtain⟨f,fd,ps,kk,F,Wr,hm,hk,hb⟩:=h;have pz:ia ja X E0:=qx;have asg:wS X (.Assign [.Name y pos'] (.Call (.Name x p) (e::es) [] Sr) pos) {nx:=λσ' H'=>∃(r:jl)(F2:Hp),gH X.K r/\r.toks=toks/\Sj F0 F2/\(∀(c:(Sk r).cs)a u,(Sk r).ov c a=some u->B.H a=none)/\Ln (Sk r) X.K (Sx (Sk r) B ((0:Int),([]:dw))) F2 ((0:Int),([]:dw)) ((0:Int),([]:aQ))/\Ok X.K (Sx (Sk r) B ((0:Int),([]:dw))) F2 H' σ' (ρ.set i<|.val<|.adr r.p),rt:=λ_ _=>False} σ H:=.mk λpins s I=>by
  refine oz (i:=i) t.nd (t.ix hi) (t.loc hx) (j8 F Wr (dS t hg) hm hk hb .nil pz pZ T7 (ha.1.1 _ _)<|VG.any ha.1.2) hs Gn pins s σ H _ I (ha.2 B F0 H σ _ k λvs F1 H1 x1 r1=>?_);refine⟨F1,ds,toks,x1.sub,by rw[bC];exact r1,hC,λr F2 H2 et nr=>?_⟩;obtain⟨ok,x2,n1,n2,h1,h2,f1,f2,hl⟩:=nr;have k1:=k.ext x1;have k2:=(k1.ext x2).Ta i (.adr r.p:Rep X.K F2 (.ref r.p) (.adr r.p));have dm:∀a u,(Sk r).ov ((0:Int),([]:dw)) a=some u->H1 a=none/\H2 a=some u/\F2 a=none:=λa u z=>by
   by_cases e1:a=r.p;·subst e1;rw[Sk.WJ]at z;cases z;exact⟨n1,h1,f1⟩
   ·by_cases e2:a=r.q;·subst e2;rw[Sk.Xh ok.ne]at z;cases z;exact⟨n2,h2,f2⟩
    ·rw[show(Sk r).ov ((0:Int),([]:dw)) a=none from(show(if a=r.p then _ else if a=r.q then _ else _)=_ by rw[av e1,av e2])]at z;cases z
  have Yy:∀(c:(Sk r).cs)a u,(Sk r).ov c a=some u->B.H a=none:=λc a u z=>by obtain⟨v,hv⟩:=LS.has z ((0:Int),([]:dw));exact k1.sh.free (dm a v hv).1
  have no:∀(j:Nat)xs a,(ρ.set i<|.val<|.adr r.p)[j]?=some (.own xs)->(σ.set i<|some<|.ref r.p)[j]?=some (some<|.ref a)->(Sk r).ov ((0:Int),([]:dw)) a=none:=λj xs a q1 q2=>by obtain⟨UQ,Yf⟩:=fW j _ q1 λz=>nomatch z;rw[List.getElem?_set_ne UQ]at q2;obtain⟨a',vs',g1,g2,_⟩:=k1.Tj j xs Yf;rw[g1]at q2;cases q2;cases e:(Sk r).ov ((0:Int),([]:dw)) a with|none=>rfl|some u=>rw[(dm a u e).1]at g2;cases g2
  have nd:∀(j:Nat)xs a,(ρ.set i<|.val<|.adr r.p)[j]?=some (.TQ xs)->(σ.set i<|some<|.ref r.p)[j]?=some (some<|.ref a)->(Sk r).ov ((0:Int),([]:dw)) a=none:=λj xs a q1 q2=>by obtain⟨UQ,Yf⟩:=fW j _ q1 λz=>nomatch z;rw[List.getElem?_set_ne UQ]at q2;obtain⟨a',vs',g1,g2,_⟩:=k1.So.UC j xs Yf;rw[g1]at q2;cases q2;cases e:(Sk r).ov ((0:Int),([]:dw)) a with|none=>rfl|some u=>rw[(dm a u e).1]at g2;cases g2
  have k3:Ok X.K (Sx (Sk r) B ((0:Int),([]:dw))) F2 H2 (σ.set i<|some<|.ref r.p) (ρ.set i<|.val<|.adr r.p):=k2.pin (S:=Sk r) (c:=((0:Int),([]:dw))) (λa u z=>Yy _ a u z) (λa u z=>(dm a u z).2.1) (λa u z=>(dm a u z).2.2) no nd;refine⟨r,F2,ok,et,x1.sf.trans x2.sf,Yy,⟨λa u z=>jU z,λa u z=>?_,⟨rfl,.nil,hl⟩⟩,k3⟩;cases eb:B.F a with|none=>exact eb|some o=>have:=k3.sf a o eb;rw[(dm a u z).2.2]at this;cases this
 refine fh (aL (asg pins s I) (λf s' z=>?_) λ_ _ z=>t.no z);cases f with
 |brk=>obtain⟨_,_,_,z⟩:=z;exact z.elim
 |cont=>obtain⟨_,_,_,z⟩:=z;exact z.elim
 |ret u=>obtain⟨_,_,_,_,_,z⟩:=z;exact z.elim
 |next=>
  obtain⟨σ',H',I',r,F2,ok,et,sf,Yy,l,k3⟩:=z;refine VQ r ok et E hp _ F2 H' σ' _ l k3 pins s' I' λv w' z=>hE v w' ?_;obtain⟨σ1,H1,s1,ρ',F',Xl,c',i1,o1,sf1,th⟩:=z;have e3:Sx (Sk r) (Sx (Sk r) B ((0:Int),([]:dw))) c'=Sx (Sk r) B c':=Sx.up (S:=Sk r);rw[e3]at o1;refine⟨σ1,H1,s1,ρ'.map λ_=>.un,F',Xl,c0,i1,?_,sf.trans sf1,th⟩;rw[Rz B c0];have x3:Ext B F' Xl:=o1.toExt.XY λa u z=>Yy c' a u z;have nn:∀(j:Nat)(z:Sl),(ρ'.map λ_=>Sl.un)[j]?=some z->z=.un:=λj z hz=>by
   rw[List.getElem?_map]at hz;cases e:ρ'[j]? with
   |none=>rw[e]at hz;cases hz
   |some q=>rw[e]at hz;cases hz;rfl
  exact⟨x3,by rw[aj];exact o1.len,(λj d hd=>nomatch nn j _ hd),(λj ys hd=>nomatch nn j _ hd),(λj j' ys ys' a h1 h2=>nomatch nn j _ h1),⟨(λj ys hd=>nomatch nn j _ hd),(λj j' ys ys' a h1 h2=>nomatch nn j _ h1)⟩⟩
end
end L2.EV
set_option maxHeartbeats 4000000
namespace My
open PySem L2 L2.EV
variable {K:ce}
def top(i:Nat):Stmt:=PySem.Challenge.pw_planestacks_k31_texts_of_no_terms.main.body.getD i<|.Pass ⟨0,0,0,0⟩
abbrev ju:Stmt:=top 11
abbrev lV:cH:=["parts","nought","many"]
def oj:aJ lV ["parts","nought"] (ai ju):=iG<|by decide
abbrev pJ:Stmt:=top 12
abbrev uf:cH:=["parts","power","nought"]
def vO:aJ uf ["parts","power","nought"] (ai pJ):=iG<|by decide
abbrev rZ:Stmt:=top 13
abbrev xm:cH:=["numbers"]
def yu:aJ xm ["numbers"] (ai rZ):=iG<|by decide
abbrev mY:Stmt:=top 14
abbrev re:cH:=["f","g","many"]
def uo:aJ re ["f","g"] (ai mY):=iG<|by decide
abbrev jZ:Stmt:=top 15
abbrev nE:cH:=["f"]
def qk:aJ nE ["f"] (ai jZ):=iG<|by decide
abbrev jH:Stmt:=top 16
abbrev oZ:cH:=["f","g","numbers","j","one","k","other"]
def rQ:aJ oZ ["f","g"] (ai jH):=iG<|by decide
abbrev mZ:Stmt:=top 18
abbrev rf:cH:=["rows"]
def uq:aJ rf ["rows"] (ai mZ):=iG<|by decide
abbrev j5:Stmt:=top 19
abbrev nH:cH:=["f","g","many"]
def qp:aJ nH ["f","g"] (ai j5):=iG<|by decide
abbrev jv:Stmt:=top 20
abbrev lX:cH:=["f","g"]
def ot:aJ lX ["f","g"] (ai jv):=iG<|by decide
abbrev gN:Stmt:=top 21
abbrev lW:cH:=["f","g","rows","j","one","k","other"]
def oq:aJ lW ["f","g"] (ai gN):=iG<|by decide
abbrev k9:Stmt:=top 27
abbrev pb:cH:=["token"]
def rR:aJ pb ["token"] (ai k9):=iG<|by decide
abbrev j4:Stmt:=top 28
abbrev nG:cH:=["text","start","end"]
def qo:aJ nG ["text","start"] (ai j4):=iG<|by decide
abbrev c8:Stmt:=top 29
abbrev Sv:cH:=["run"]
def gC:aJ Sv ["run"] (ai c8):=iG<|by decide
abbrev jf:Stmt:=top 30
abbrev TH:cH:=["text","start","run"]
def om:aJ TH ["text","start"] (ai jf):=iG<|by decide
abbrev bU:Stmt:=top 31
abbrev SD:cH:=["text","tokens","at"]
def mR:aJ SD ["text"] (ai bU):=iG<|by decide
abbrev fj:Stmt:=top 32
abbrev SM:cH:=["tokens","opening","closing","many","token"]
def kE:aJ SM ["tokens","opening","closing"] (ai fj):=iG<|by decide
abbrev ii:Stmt:=top 34
abbrev Tt:cH:=["text","most","tokens"]
def mT:aJ Tt ["text","most"] (ai ii):=iG<|by decide
abbrev j0:Stmt:=top 35
abbrev nF:cH:=["reader"]
def qm:aJ nF ["reader"] (ai j0):=iG<|by decide
abbrev jY:Stmt:=top 36
abbrev nD:cH:=["reader","token"]
def qj:aJ nD ["reader"] (ai jY):=iG<|by decide
abbrev fT:Stmt:=top 37
abbrev S6:cH:=["reader","tokens","token"]
def kC:aJ S6 ["reader","tokens"] (ai fT):=iG<|by decide
abbrev fU:Stmt:=top 38
abbrev S7:cH:=["reader"]
def kD:aJ S7 ["reader"] (ai fU):=iG<|by decide
abbrev hJ:Stmt:=top 42
abbrev To:cH:=["reader","sign"]
def jG:aJ To ["reader"] (ai hJ):=iG<|by decide
abbrev eJ:Stmt:=top 43
abbrev SI:cH:=["reader"]
def jP:aJ SI ["reader"] (ai eJ):=iG<|by decide
abbrev fk:Stmt:=top 44
abbrev SN:cH:=["reader","minuses"]
def kF:aJ SN ["reader"] (ai fk):=iG<|by decide
abbrev fF:Stmt:=top 45
abbrev SU:cH:=["reader"]
def lL:aJ SU ["reader"] (ai fF):=iG<|by decide
abbrev gf:Stmt:=top 46
abbrev Td:cH:=["reader","token"]
def mV:aJ Td ["reader"] (ai gf):=iG<|by decide
abbrev pK:Stmt:=top 47
abbrev ug:cH:=["token","number"]
def vP:aJ ug ["token"] (ai pK):=iG<|by decide
abbrev gq:Stmt:=top 48
abbrev jm:cH:=["f","many","power","k"]
def kX:aJ jm ["f","many"] (ai gq):=iG<|by decide
abbrev gp:Stmt:=top 49
abbrev Tn:cH:=["step","boards","last","first"]
def kW:aJ Tn ["step","boards"] (ai gp):=iG<|by decide
abbrev ij:Stmt:=top 50
abbrev Tu:cH:=["text","reader","boards","step"]
def mU:aJ Tu ["text"] (ai ij):=iG<|by decide
abbrev lr:Stmt:=top 52
abbrev pj:cH:=["_law_script","_law_k","_law_state","_law_cell_here"]
def rY:aJ pj ["_law_script","_law_k"] (ai lr):=iG<|by decide
abbrev iK:Stmt:=top 53
abbrev kO:cH:=["_law_cell_here","_law_many","_law_found","_law_state","_law_digits","_law_k"]
def nV:aJ kO ["_law_cell_here","_law_many"] (ai iK):=iG<|by decide
abbrev lc:Stmt:=top 54
abbrev pc:cH:=["_law_parts","_law_found"]
def rS:aJ pc ["_law_parts"] (ai lc):=iG<|by decide
abbrev gV:Stmt:=top 55
abbrev gY:cH:=["_law_parts","_law_rows","_law_k"]
def my:aJ gY ["_law_parts"] (ai gV):=iG<|by decide
abbrev iJ:Stmt:=top 56
abbrev TJ:cH:=["_law_one","_law_other","_law_found","_law_i","_law_k","_law_j","_law_m"]
def nU:aJ TJ ["_law_one","_law_other"] (ai iJ):=iG<|by decide
abbrev lj:Stmt:=top 57
abbrev pf:cH:=["_law_state"]
def rV:aJ pf ["_law_state"] (ai lj):=iG<|by decide
abbrev m5:Stmt:=top 58
abbrev UM:cH:=["_law_one","_law_other","_law_sign","_law_found","_law_spot"]
def ut:aJ UM ["_law_one","_law_other","_law_sign"] (ai m5):=iG<|by decide
abbrev lu:Stmt:=top 59
abbrev pk:cH:=["_law_state","_law_room","_law_deep","_law_x","_law_tokens","_law_parts","_law_size"]
def mX:aJ pk ["_law_state","_law_room","_law_deep"] (ai lu):=iG<|by decide
abbrev jy:Stmt:=top 60
abbrev l5:cH:=["_law_state","_law_room","_law_deep","_law_x","_law_power","_law_tokens","_law_parts","_law_found","_law_turn","_law_many"]
def kG:aJ l5 ["_law_state","_law_room","_law_deep"] (ai jy):=iG<|by decide
abbrev li:Stmt:=top 61
abbrev pe:cH:=["_law_state","_law_room","_law_deep","_law_first","_law_tokens","_law_parts","_law_more","_law_others"]
def mW:aJ pe ["_law_state","_law_room","_law_deep"] (ai li):=iG<|by decide
abbrev m3:Stmt:=top 62
abbrev rg:cH:=["_law_state","_law_room","_law_deep","_law_tokens","_law_parts","_law_turn","_law_sign","_law_more","_law_others"]
def ou:aJ rg ["_law_state","_law_room","_law_deep"] (ai m3):=iG<|by decide
abbrev jx:Stmt:=top 63
abbrev lZ:cH:=["_law_tokens","_law_xs","_law_signs","_law_text_here","_law_k","_law_blanks"]
def oy:aJ lZ ["_law_tokens","_law_xs"] (ai jx):=iG<|by decide
abbrev cD:Stmt:=top 64
abbrev iW:cH:=["_law_text_here","_law_found","_law_at","_law_signs","_law_end"]
def qv:aJ iW ["_law_text_here"] (ai cD):=iG<|by decide
abbrev gs:Stmt:=top 65
abbrev jn:cH:=["_law_mark_here"]
def k8:aJ jn ["_law_mark_here"] (ai gs):=iG<|by decide
abbrev lq:Stmt:=top 66
abbrev pi:cH:=["_law_marks_here","_law_at"]
def rX:aJ pi ["_law_marks_here","_law_at"] (ai lq):=iG<|by decide
abbrev ll:Stmt:=top 67
abbrev ph:cH:=["_law_marks_here","_law_first","_law_last","_law_many","_law_most","_law_mark_here"]
def rW:aJ ph ["_law_marks_here","_law_first","_law_last"] (ai ll):=iG<|by decide
abbrev gr:Stmt:=top 68
abbrev Tp:cH:=["_law_marks_here","_law_at","_law_mark_here","_law_tree","_law_end"]
def kZ:aJ Tp ["_law_marks_here","_law_at"] (ai gr):=iG<|by decide
abbrev eL:Stmt:=top 69
abbrev Tc:cH:=["_law_marks_here","_law_at","_law_many","_law_tree","_law_end","_law_mark_here"]
def jT:aJ Tc ["_law_marks_here","_law_at"] (ai eL):=iG<|by decide
abbrev cb:Stmt:=top 70
abbrev SV:cH:=["_law_marks_here","_law_at","_law_tree","_law_end","_law_more"]
def kY:aJ SV ["_law_marks_here","_law_at"] (ai cb):=iG<|by decide
abbrev b0:Stmt:=top 71
abbrev S9:cH:=["_law_marks_here","_law_at","_law_tree","_law_end","_law_word","_law_more"]
def je:aJ S9 ["_law_marks_here","_law_at"] (ai b0):=iG<|by decide
abbrev jz:Stmt:=top 72
abbrev T4:cH:=["_law_tree","_law_one","_law_size","_law_turn","_law_other"]
def kH:aJ T4 ["_law_tree"] (ai jz):=iG<|by decide
abbrev j7:Stmt:=top 73
abbrev Uh:cH:=["_law_tree","_law_one","_law_found","_law_turn","_law_other","_law_spot"]
def lM:aJ Uh ["_law_tree"] (ai j7):=iG<|by decide
abbrev jw:Stmt:=top 74
abbrev lY:cH:=["_law_tokens","_law_xs","_law_some","_law_found","_law_k","_law_at","_law_mark_here","_law_way"]
def ox:aJ lY ["_law_tokens","_law_xs"] (ai jw):=iG<|by decide
abbrev lh:Stmt:=top 75
abbrev pd:cH:=["_law_cell_here","_law_xs","_law_tokens","_law_parts","_law_way","_law_many","_law_text_here","_law_at"]
def rT:aJ pd ["_law_cell_here"] (ai lh):=iG<|by decide
abbrev m4:Stmt:=top 76
abbrev rh:cH:=["_law_text_here","_law_marks_here","_law_runs","_law_tree","_law_end"]
def ur:aJ rh ["_law_text_here"] (ai m4):=iG<|by decide
abbrev iI:Stmt:=top 77
abbrev kN:cH:=["_law_thing","_law_caught","_law_found","e","_law_others"]
def nS:aJ kN ["_law_thing"] (ai iI):=iG<|by decide
abbrev j6:Stmt:=top 78
abbrev nI:cH:=["_law_text_here","_law_tree","_law_bounds_here"]
def qu:aJ nI ["_law_text_here"] (ai j6):=iG<|by decide
abbrev vR:Stmt:=top 79
abbrev II:cH:=["_law_script","_law_cell_here","_law_x","_law_thing","_law_many"]
def Mi:aJ II ["_law_script"] (ai vR):=iG<|by decide
abbrev gO:Stmt:=Pb<|top 33
def vQ:aJ ["self","tokens"] ["self","tokens"] (ai gO):=iG<|by decide
def nL(ds:aQ)(d:D):Prop:=∃f:bh,ds=[cG f]/\f.length<1000/\d=cG (f.map λx=>-x)
def wr:∀ds d,nL ds d->ds.length=1:=by rintro _ _ ⟨a,rfl,_⟩;rfl
def vL{n:Nat}(h:n<1000):n<sizeLine:=ml h<|by decide
def Bb(h:DefX P w K mg base k nE (ai jZ) X)(Tz:mg "tuple"=none):Go X nE jZ nL:=by
 rintro ds d ⟨f,rfl,hf,rfl⟩;have t:=h.at';haveI:=h.S5;have bl:=h.bt Tz;show Sf X [.val<|cG f] _ _;refine aw<|bg<|mF t bl<|Vd.eq (Ss.toQ (ka (rs:=(f.map D.int).map λd=>match d with |.int i=>.int (-i) |d=>d) t ["f","number"] (IV<|by decide) (Ih<|aa t 0) (by rw[aj];exact vL hf) λX' cx=>?_)) ?_;·have t':=cx.at';refine Tf.all (λd=>[.val<|cG f,.val d]) _ _ _ (λd hd=>df t' 1) (λd hd e he=>df t' 1) λd hd=>?_;obtain⟨i,_,rfl⟩:=List.mem_map.mp hd;exact qU<|aa t' 1 rfl
 ·rw[cj,cj];rfl
def mr{i:Nat}{α:Type}{xs:List α}{x:α}(h:xs[i]?=some x):xs.take (i+1)=xs.take i++[x]:=by rw[List.take_add_one,h];rfl
def wU(s:Int)(xs:bh):Int:=xs.foldl (λs x=>(s*69621+x)%2147483647) s
def sM(ns:bh)(j:Int):Int:=if j<ns.length then ns.getD j.toNat 0 else wU (48271*(j*j+7*j+11)%2147483647)<|kR ns none<|some 3
def pE(ds:aQ)(d:D):Prop:=∃(ns:bh)(j:Int),ds=[.Vg ns,.int j]/\0<=j/\j<1000/\d=.int (sM ns j)
def xQ:∀ds d,pE ds d->ds.length=2:=by rintro _ _ ⟨a,b,rfl,_⟩;rfl
def NX(s0:Int):Nat->Int|0=>s0|i+1=>(NX s0 i*(NX s0 i%65521+40487)+7*(i:Int)+5)%1999999973
def Nz(d0:Int):Nat->Int|0=>d0|i+1=>Nz d0 i / 1000000
def M9(s0 d0:Int)(i:Nat):Int:=if Nz d0 i>0 then Nz d0 i%1000000 else NX s0<|i+1
def rP(c:Int):Int:=(c%1999999973+31)*765432101%1999999973
def qa(c:Int):Int:=if c<0\/c≥10 ^ 18 then c.natAbs else 0
def jV(c:Int)(n:Nat):bh:=(List.range n).map<|M9 (rP c)<|qa c
def tK(c:Int)(n:Nat):(jV c n).length=n:=by simp[jV]
def iY(ds:aQ)(d:D):Prop:=∃(c:Int)(n:Nat),ds=[.int c,.int n]/\n<1000/\d=eU (jV c n)
def tS:∀ds d,iY ds d->ds.length=2:=by rintro _ _ ⟨a,b,rfl,_⟩;rfl
def il{i:Nat}(h:(dY 0 n)[i]?=some d):i<n/\d=.int (i:Int):=by
 unfold dY at h;rw[List.getElem?_map]at h;by_cases hi:i<n;·rw[List.getElem?_range hi]at h;cases h;exact⟨hi,by show D.int (0+(i:Int))=_;rw[jN]⟩
 ·rw[List.getElem?_eq_none<|by simpa using hi]at h;cases h
def CG(h:DefX P w K mg base k pj (ai lr) X)(Sm:mg "len"=none):Go X pj lr pE:=by
 rintro ds d ⟨ns,j,rfl,h0,h1,rfl⟩;have t:=h.at';haveI:=h.S5;have bl:=h.bt Sm;show Sf X [.val<|.Vg ns,.val<|.int j,.un,.un] _ _;by_cases hj:j<ns.length
 ·refine fm<|dD (Sg.eq (fZ (aa t 1)<|eC t bl<|Se.qs<|aa t 0) ?_)<|aw<|bg<|aY (Se.qs<|aa t 0) (aa t 1) ?_;·rw[aj];exact ap hj
  ·have hn:j.toNat<ns.length:=by lia
   rw[sS h0 rfl hn];unfold sM;rw[ax hj,List.getD_eq_getElem?_getD,List.getElem?_eq_getElem hn];rfl
 ·refine au (cB (Sg.eq (fZ (aa t 1)<|eC t bl<|Se.qs<|aa t 0) ?_) bQ) ?_;·rw[aj];exact ak hj
  refine au (aX t 2<|bO (gj af (bK (bK (gj (aa t 1) (aa t 1)<|iO (by lia)<|by lia)<|gj af (aa t 1)<|iO (by decide)<|by decide) af)<|iO (by decide)<|by decide) af<|by decide) ?_;refine au (ρ':=[.val<|.Vg ns,.val<|.int j,.val<|.int<|sM ns j,.un]) (ik t (qZ<|Se.eq (Ss.SF<|gu (Se.qs<|aa t 0) eZ<|eO af)<|by rw[sK]) ?_)<|aw<|bg<|aa t 2;refine SJ.SY (λi=>[.val<|.Vg ns,.val<|.int j,.val<|.int<|wU (48271*(j*j+7*j+11)%2147483647)<|(kR ns none<|some 3).take i,.un]) (λi d hi=>?_) rfl ?_
  ·rw[List.getElem?_map]at hi;cases e:(kR ns none<|some 3)[i]? with
   |none=>rw[e]at hi;cases hi
   |some x=>
    rw[e]at hi;cases hi;refine⟨_,bv t 3,Sf.weak (aw<|aX t 2<|bO (bK (gj (aa t 2) af<|tL (by decide)<|by decide)<|aa t 3) af<|by decide) ?_⟩;have e2:wU (48271*(j*j+7*j+11)%2147483647) ((kR ns none<|some 3).take<|i+1)=(wU (48271*(j*j+7*j+11)%2147483647) ((kR ns none<|some 3).take i)*69621+x)%2147483647:=by rw[mr e];unfold wU;rw[sZ];rfl
    rw[e2];exact .keep<|.keep<|.keep<|.forget .nil
  ·rw[aj,bW];unfold sM;rw[av hj]
def xf(h:DefX P w K mg base k kO (ai iK) X)(Sw:mg "range"=none)(Zp:mg "abs"=none)(Th:mg "int"=none):Go X kO iK iY:=by
 rintro ds d ⟨c,n,rfl,hn,rfl⟩;have t:=h.at';haveI:=h.S5;have b1:=h.bt Sw;have b2:=h.bt Zp;have b3:=h.bt Th;show Sf X [.val<|.int c,.val<|.int n,.un,.un,.un,.un] _ _;refine au (iH t 2<|bE ah) ?_;refine au (aX t 3<|bO (gj (bK (bO (aa t 0) af<|by decide) af) af<|tL (by decide)<|by decide) af<|by decide) ?_;refine au (aX t 4 af) ?_;refine au (ρ':=[.val<|.int c,.val<|.int n,.own [],.val<|.int<|rP c,.val<|.int<|qa c,.un]) ?_ ?_
 ·by_cases h1:c<0
  ·refine dD (Ui.toT<|tW<|Sg.eq (fZ (aa t 0) af)<|ap h1)<|Sf.eq (aw<|aX t 4<|Ic t b2<|aa t 0) ?_;have e:qa c=(c.natAbs:Int):=by unfold qa;rw[ax<|.inl h1]
   rw[e];rfl
  ·by_cases h2:c≥10 ^ 18
   ·refine dD (Ui.toT<|lR (Sg.eq (fZ (aa t 0) af)<|ak h1)<|oO<|Sg.eq (Lw (aa t 0)<|wK af af ⟨by decide,by decide,by decide⟩)<|ap h2)<|Sf.eq (aw<|aX t 4<|Ic t b2<|aa t 0) ?_;have e:qa c=(c.natAbs:Int):=by unfold qa;rw[ax<|.inr h2]
    rw[e];rfl
   ·refine cB (Ui.toT<|lR (Sg.eq (fZ (aa t 0) af)<|ak h1)<|oO<|Sg.eq (Lw (aa t 0)<|wK af af ⟨by decide,by decide,by decide⟩)<|ak h2)<|Sf.eq bQ ?_;have e:qa c=0:=by unfold qa;rw[av<|by rintro(z |z);exact h1 z;exact h2 z]
    rw[e];rfl
 refine au (ik t (fz t b1 (aa t 1) (by lia)<|by lia)<|SJ.SY (ρ':=[.val<|.int c,.val<|.int n,.own<|(jV c n).map D.int,.val<|.int<|NX (rP c) n,.val<|.int<|Nz (qa c) n,.un]) (λi=>[.val<|.int c,.val<|.int n,.own<|(jV c i).map D.int,.val<|.int<|NX (rP c) i,.val<|.int<|Nz (qa c) i,.un]) (λi d hi=>?_) rfl ?_)<|eE 2 rfl<|aw<|bg<|aa t 2
 ·obtain⟨ZJ,rfl⟩:=il hi;have hi':i<n:=by simpa using ZJ
  refine⟨_,bv t 5,Sf.weak (au (aX t 3<|bO (bK (bK (gj (aa t 3) (bK (bO (aa t 3) af<|by decide) af)<|tL (by lia)<|by lia)<|gj af (aa t 5)<|iO (by decide)<|by decide) af) af<|by decide)<|au (mz t 2 rfl (d:=.int<|M9 (rP c) (qa c) i) (aY (Ss.toQ<|bE<|ac (aa t 3)<|ac (bO (aa t 4) af<|by decide) ah) (gX t b3<|Lv (aa t 4) af) ?_) ?_)<|aw<|aX t 4<|iR t (aa t 4) af<|by decide) ?_⟩
  ·by_cases hd:0<Nz (qa c) i
   ·have e:M9 (rP c) (qa c) i=Nz (qa c) i%1000000:=by unfold M9;rw[ax hd]
    rw[e,ap hd];rfl
   ·have e:M9 (rP c) (qa c) i=NX (rP c) (i+1):=by unfold M9;rw[av hd]
    rw[e,ak hd];rfl
  ·rw[aj,tK];exact vL<|by lia
  ·have e:jV c (i+1)=jV c i++[M9 (rP c) (qa c) i]:=by unfold jV;rw[KT,aN];rfl
   rw[e,aN];exact .keep<|.keep<|.keep<|.keep<|.keep<|.forget .nil
 ·have e:(dY 0 (n:Int).toNat).length=n:=by simp[dY]
  rw[e]
def fX(xs:bh):bh:=(xs.reverse.dropWhile (·==0)).reverse
def kq(xs:bh):fX (xs++[0])=fX xs:=by simp[fX]
def pH{a:Int}(xs:bh)(h:a≠0):fX (xs++[a])=xs++[a]:=by simp[fX,h]
def rJ(xs:bh):(fX xs).length<=xs.length:=by unfold fX;rw[pX];have:=(xq (l:=xs.reverse) (p:=λx=>x==0)).length_le;rw[pX]at this;exact this
def Jh(xs:bh):fX xs=[]\/∃ys a,fX xs=ys++[a]/\a≠0:=by
 induction h:xs.length generalizing xs with
 |zero=>left;rw[bx h];rfl
 |succ n ih=>
  rcases eG xs with e |⟨ys,y,e⟩;·subst e;left;rfl
  ·rw[eI]at e;subst e;by_cases hy:y=0;·subst hy;rw[kq];exact ih ys<|by simpa using h
   ·right;exact⟨ys,y,pH ys hy,hy⟩
def Fk(R:bh->cA)(h1:Sg X (R []) c false)(h2:∀ys a,(ys++[a]).length<1000->Sg X (R<|ys++[a]) c (decide<|a=0))(h3:∀ys a,Sf X (R<|ys++[a]) body<|.nx<|R ys):∀(n:Nat)(ys:bh),ys.length=n->ys.length<1000->∃m,T3 X c body m (R ys) (.nx<|R<|fX ys):=by
 intro n;induction n with
 |zero=>intro ys h _;rw[bx h];exact⟨0,.stop h1⟩
 |succ n ih=>
  intro ys h hl;rcases eG ys with e |⟨zs,a,e⟩;·subst e;exact⟨0,.stop h1⟩
  ·rw[eI]at e;subst e;by_cases ha:a=0
   ·subst ha;rw[kq];have hz:zs.length=n:=by simpa using h
    obtain⟨m,q⟩:=ih zs hz (by lia);exact⟨m+1,.step (Sg.eq (h2 zs 0 hl) rfl) (h3 zs 0) q⟩
   ·rw[pH zs ha];exact⟨0,.stop<|Sg.eq (h2 zs a hl)<|ak ha⟩
def pA(ds:aQ)(d:D):Prop:=∃xs:bh,ds=[eU xs]/\xs.length<1000/\d=cG (fX xs)
def xL:∀ds d,pA ds d->ds.length=1:=by rintro _ _ ⟨a,rfl,_⟩;rfl
def vc(f g:bh)(i:Nat)(acc:bh):Nat->bh|0=>acc|j+1=>(vc f g i acc j).set (i+j)<|(vc f g i acc j).getD (i+j) 0+f.getD i 0*g.getD j 0
def qJ(f g:bh):Nat->bh|0=>List.replicate (f.length+g.length) 0|i+1=>vc f g i (qJ f g i) g.length
def pP(f g:bh)(i:Nat)(acc:bh):∀j,(vc f g i acc j).length=acc.length|0=>rfl|j+1=>by rw[vc,bq,pP]
def wa(f g:bh):∀i,(qJ f g i).length=f.length+g.length|0=>by rw[qJ,iZ]|i+1=>by rw[qJ,pP,wa]
def iD(f g:bh):bh:=fX<|qJ f g f.length
def vK(f g:bh):(iD f g).length<=f.length+g.length:=by have:=rJ<|qJ f g f.length;rw[wa]at this;exact this
def vd{xs:bh}{j:Nat}(h:j<xs.length):xs.getD j 0=xs[j]:=by rw[List.getD_eq_getElem?_getD,List.getElem?_eq_getElem h];rfl
def xg{xs:bh}{n:Nat}(h:n<xs.length):kS (xs.map D.int) (n:Int)=some (.int<|xs.getD n 0):=by rw[sS (by lia) (aO n) h,vd h]
def CB(h:DefX P w K mg base k pc (ai lc) X)(UJ:mg "list"=none)(Tz:mg "tuple"=none)(Sm:mg "len"=none):Go X pc lc pA:=by
 rintro ds d ⟨xs,rfl,hl,rfl⟩;have t:=h.at';haveI:=h.S5;have b1:=h.bt UJ;have b2:=h.bt Tz;have b3:=h.bt Sm;show Sf X [.val<|eU xs,.un] _ _;refine au (iH t 1<|EX t b1<|Se.ql<|aa t 0) ?_;refine au (fE t<|Fk (λys=>[.val<|eU xs,.own<|ys.map D.int]) ?_ (λys a hy=>?_) (λys a=>?_) _ xs rfl hl)<|aw<|bg<|mF t b2<|hV t 1 rfl;·exact Ui.toT<|nj<|qW t (Vd.p<|hV t 1 rfl) (Se.p<|Ss.SF<|bE ah) (gZ []) (gZ [])<|by have:=AK [] [];exact aV not this
 ·refine Ui.toT<|ly (qW t (Vd.p<|hV t 1 rfl) (Se.p<|Ss.SF<|bE ah) (gZ<|ys++[a]) (gZ [])<|by have:=AK (ys++[a]) [];rw[ak<|by simp]at this;exact aV not this)<|pQ<|fH (aY (d:=.int a) (hV t 1 rfl) (jj (eC t b3<|hV t 1 rfl) af) ?_) af;rw[aj,sS (n:=ys.length) (by simp) (by simp)<|by simp];simp
 ·refine Sf.eq (aw<|K9 t 1 rfl<|by simp) ?_;rw[aN];have e:(ys.map D.int++[a].map D.int).dropLast=ys.map D.int:=by simp
  rw[e];rfl
def Ua(f:bh):Prop:=f=[]\/∃ys a,f=ys++[a]/\a≠0
def GC(xs:bh):xs.take (fX xs).length=fX xs:=by
 induction h:xs.length generalizing xs with
 |zero=>rw[bx h];rfl
 |succ n ih=>
  rcases eG xs with e |⟨ys,y,e⟩;·subst e;rfl
  ·rw[eI]at e;subst e;by_cases hy:y=0;·subst hy;rw[kq];have q:=ih ys (by simpa using h);have l:=rJ ys;rw[IY l];exact q
   ·rw[pH ys hy,bW]
def Ck(R:Nat->cA)(xs:bh)(h1:Sg X (R 0) c false)(h2:∀m(h:m<xs.length),Sg X (R<|m+1) c<|decide<|xs[m]=0)(h3:∀m,Sf X (R<|m+1) body<|.nx<|R m):∀m,m<=xs.length->∃n,T3 X c body n (R m) (.nx<|R (fX<|xs.take m).length)
 |0,_=>⟨0,.stop h1⟩
 |m+1,hm=>by
  have S1:m<xs.length:=hm;have e:xs.take (m+1)=xs.take m++[xs[m]]:=mr<|List.getElem?_eq_getElem S1;by_cases hz:xs[m]=0;·obtain⟨n,q⟩:=Ck R xs h1 h2 h3 m (by lia);refine⟨n+1,.step (Sg.eq (h2 m S1)<|ap hz) (h3 m) ?_⟩;rw[e,hz,kq];exact q
  ·refine⟨0,?_⟩;rw[e,pH _ hz];have el:(xs.take m++[xs[m]]).length=m+1:=by rw[<-e,cQ];lia
   rw[el];exact .stop<|Sg.eq (h2 m S1)<|ak hz
def sW(ds:aQ)(d:D):Prop:=∃xs:bh,ds=[eU xs]/\xs.length<1000/\d=cG (fX xs)
def Dq:∀ds d,sW ds d->ds.length=1:=by rintro _ _ ⟨a,rfl,_⟩;rfl
def oB(f g:bh):bh:=fX ((List.range<|max f.length g.length).map λi=>f.getD i 0+g.getD i 0)
def nK(ds:aQ)(d:D):Prop:=∃f g:bh,ds=[cG f,cG g]/\f.length<1000/\g.length<1000/\d=cG (oB f g)
def Au:∀ds d,nK ds d->ds.length=2:=by rintro _ _ ⟨a,b,rfl,_⟩;rfl
def oE(f g:bh):Nat->bh|0=>List.replicate (f.length+g.length-1) 0|i+1=>vc f g i (oE f g i) g.length
def sj(f g:bh):∀i,(oE f g i).length=f.length+g.length-1|0=>by rw[oE,iZ]|i+1=>by rw[oE,pP,sj]
def B7(f g:bh)(i:Nat)(acc:bh)(z:Int):∀j,i+j<=acc.length->vc f g i (acc++[z]) j=vc f g i acc j++[z]
 |0,_=>rfl
 |j+1,h=>by
  have ih:=B7 f g i acc z j (by lia);have hl:i+j<(vc f g i acc j).length:=by rw[pP];lia
  rw[vc,vc,ih,List.set_append_left _ _ hl];have e:(vc f g i acc j++[z]).getD (i+j) 0=(vc f g i acc j).getD (i+j) 0:=by rw[List.getD_eq_getElem?_getD,List.getD_eq_getElem?_getD,List.getElem?_append_left hl]
  rw[e]
def y4(f g:bh)(hf:f≠[])(hg:g≠[]):∀i,i<=f.length->qJ f g i=oE f g i++[0]|0,_=>by have h1:=List.length_pos_iff.mpr hf;rw[qJ,oE,show f.length+g.length=(f.length+g.length-1)+1 by lia,R5];rfl|i+1,h=>by have h1:=List.length_pos_iff.mpr hf;rw[qJ,oE,y4 f g hf hg i<|by lia,B7];rw[sj];lia
def C6{f g:bh}(hf:f≠[])(hg:g≠[]):fX (oE f g f.length)=iD f g:=by unfold iD;rw[y4 f g hf hg _<|ar _,kq]
def tz:∀n,fX (List.replicate n (0:Int))=[]|0=>rfl|n+1=>by rw[R5,kq,tz]
def Fm(g:bh):iD [] g=[]:=by unfold iD;rw[iy,qJ];exact tz _
def BU(f:bh):∀i,qJ f [] i=List.replicate f.length 0|0=>rfl|i+1=>by rw[qJ,iy,vc,BU]
def C7(f:bh):iD f []=[]:=by unfold iD;rw[BU];exact tz _
def Fa{x:Int}(h:x.natAbs<2 ^ k):Builtin.Int.intBits x<=k:=by
 unfold Builtin.Int.intBits;split;·exact bR _
 ·rename_i h0;have:x.natAbs≠0:=by intro z;apply h0;simp at z ⊢;lia
  exact(Nat.log2_lt this).mpr h
def mD{x y:Int}{k:Nat}(hk:k<=1000000)(hx:x.natAbs<2 ^ k)(hy:y.natAbs<2 ^ k):IntMulOk x y:=.of_bits (ao (Fa hx)<|ao hk<|by decide)<|ao (Fa hy)<|ao hk<|by decide
def pw(ds:aQ)(d:D):Prop:=∃f g:bh,ds=[cG f,cG g]/\f.length<100/\g.length<100/\(∀x∈f,∀y∈g,IntMulOk x y)/\d=cG (iD f g)
def xI:∀ds d,pw ds d->ds.length=2:=by rintro _ _ ⟨a,b,rfl,_⟩;rfl
def Cy(h:DefX P w K mg base k oZ (ai jH) X)(Uw:mg "enumerate"=none)(Sm:mg "len"=none)(c1:Callee X "row_of" sW):Go X oZ jH pw:=by
 rintro ds d ⟨f,g,rfl,hf,hg,hb,rfl⟩;have t:=h.at';haveI:=h.S5;have b1:mf X (ai jH) "enumerate" (.type "enumerate"):=Ix (by rw[h.Up];exact Uw) rfl (by decide);have b2:=h.bt Sm;show Sf X [.val<|cG f,.val<|cG g,.un,.un,.un,.un,.un] _ _;by_cases h1:f=[];·refine fm<|dD (Ui.toT<|tW<|hW t (Se.p<|aa t 0) (Se.p (d:=cG [])<|aF ah) (c7 _) (c7 _)<|by rw[nv,h1];rfl)<|aw<|bg<|Se.eq (d:=.tup []) (aF ah) ?_;rw[h1,Fm];rfl
 by_cases h2:g=[];·refine fm<|dD (Ui.toT<|lR (hW t (Se.p<|aa t 0) (Se.p (d:=cG [])<|aF ah) (c7 _) (c7 _)<|by rw[nv,ak h1])<|oO<|hW t (Se.p<|aa t 1) (Se.p (d:=cG [])<|aF ah) (c7 _) (c7 _)<|by rw[nv,h2];rfl)<|aw<|bg<|Se.eq (d:=.tup []) (aF ah) ?_;rw[h2,C7];rfl
 have lf:=List.length_pos_iff.mpr h1;have lg:=List.length_pos_iff.mpr h2;refine au (cB (Ui.toT<|lR (hW t (Se.p<|aa t 0) (Se.p (d:=cG [])<|aF ah) (c7 _) (c7 _)<|by rw[nv,ak h1])<|oO<|hW t (Se.p<|aa t 1) (Se.p (d:=cG [])<|aF ah) (c7 _) (c7 _)<|by rw[nv,ak h2]) bQ) ?_;have en:((f.length:Int)+g.length-1).toNat=f.length+g.length-1:=by lia
 refine au (iH (xs:=(oE f g 0).map D.int) t 2<|Ss.eq (t4 (n:=(f.length:Int)+g.length-1) (Ss.SF<|bE<|ac af ah) (Se.eq (jj (bK (eC t b2<|Se.qt<|aa t 0)<|eC t b2<|Se.qt<|aa t 1) af)<|by rw[aj,aj]) (by lia) (by lia)<|by rw[en];have:=y8;simp;lia)<|by rw[en,G5];rfl) ?_;refine au (ρ':=[.val<|cG f,.val<|cG g,.own<|(oE f g f.length).map D.int,.un,.un,.un,.un]) (ik t (vj t b1<|aa t 0)<|SJ.SY (λi=>[.val<|cG f,.val<|cG g,.own<|(oE f g i).map D.int,.un,.un,.un,.un]) (λi d hi=>?_) rfl ?_) ?_
 ·obtain⟨e,he,rfl⟩:=mH hi;rw[List.getElem?_map]at he;cases hx:f[i]? with
  |none=>rw[hx]at he;cases he
  |some x=>
  rw[hx]at he;cases he;have hi':i<f.length:=(List.getElem?_eq_some_iff.mp hx).1;have ex:f.getD i 0=x:=by rw[List.getD_eq_getElem?_getD,hx];rfl
  refine⟨_,pS t 3 4,Sf.weak (ρ1:=[.val<|cG f,.val<|cG g,.own<|(oE f g<|i+1).map D.int,.val<|.int i,.val<|.int x,.un,.un]) (aw<|ik t (vj t b1<|aa t 1)<|SJ.SY (λj=>[.val<|cG f,.val<|cG g,.own<|(vc f g i (oE f g i) j).map D.int,.val<|.int i,.val<|.int x,.un,.un]) (λj d hj=>?_) rfl ?_)<|.keep<|.keep<|.keep<|.forget<|.forget<|.keep<|.keep .nil⟩
  ·obtain⟨e,he,rfl⟩:=mH hj;rw[List.getElem?_map]at he;cases hy:g[j]? with
   |none=>rw[hy]at he;cases he
   |some y=>
   rw[hy]at he;cases he;have hj':j<g.length:=(List.getElem?_eq_some_iff.mp hy).1;have ey:g.getD j 0=y:=by rw[List.getD_eq_getElem?_getD,hy];rfl
   have hyb:=hb x (List.mem_of_getElem? hx) y<|List.mem_of_getElem? hy;have hl:(vc f g i (oE f g i) j).length=f.length+g.length-1:=by rw[pP,sj]
   have S1:i+j<(vc f g i (oE f g i) j).length:=by lia
   refine⟨_,pS t 5 6,Sf.weak (aw<|Fs (j:=i+j) (u:=(vc f g i (oE f g i) j).getD (i+j) 0) t 2 B6 rfl (bK (aa t 3)<|aa t 5) ?_ ?_ (gj (aa t 4) (aa t 6) hyb) trivial) ?_⟩;·rw[aj];exact Dt (by lia) (by lia)<|by lia
   ·rw[List.getElem?_map,List.getD_eq_getElem?_getD,List.getElem?_eq_getElem S1];rfl
   ·rw[vc,List.map_set,ex,ey];exact .keep<|.keep<|.keep<|.keep<|.keep<|.forget<|.forget .nil
  ·rw[mG,aj];rfl
 ·rw[mG,aj]
 ·refine eE 2 rfl<|aw<|bg<|Se.eq (aG t c1 (ac (aa t 2) ah) ⟨oE f g f.length,rfl,by rw[sj];lia,rfl⟩) ?_;rw[C6 h1 h2]
def y0(f g:bh):(oB f g).length<=max f.length g.length:=by have:=rJ ((List.range<|max f.length g.length).map λi=>f.getD i 0+g.getD i 0);rw[aj,i8]at this;exact this
def tU{g:bh}{i:Nat}(h:g.length<=i):g.getD i 0=0:=by rw[List.getD_eq_getElem?_getD,List.getElem?_eq_none h];rfl
def tD(xs:bh)(i:Nat):(fX xs).getD i 0=xs.getD i 0:=by
 have key:∀ys:bh,∀i,(ys.dropWhile (·==0)).reverse.getD i 0=ys.reverse.getD i 0:=by
  intro ys;induction ys with
  |nil=>intro i;rfl
  |cons y ys ih=>
   intro i;by_cases hy:y=0
   ·subst hy;have:((0:Int)::ys).dropWhile (·==0)=ys.dropWhile (·==0):=by simp[List.dropWhile]
    rw[this,ih i,List.reverse_cons];rw[List.getD_eq_getElem?_getD,List.getD_eq_getElem?_getD];by_cases hi:i<ys.reverse.length;·rw[List.getElem?_append_left hi]
    ·rw[List.getElem?_append_right<|by lia,List.getElem?_eq_none<|by lia];cases z:i-ys.reverse.length with|zero=>rfl|succ n=>rfl
   ·have:(y::ys).dropWhile (·==0)=y::ys:=by rw[List.dropWhile_cons_of_neg<|by simpa using hy]
    rw[this]
 have:=key xs.reverse i;rw[List.reverse_reverse]at this;exact this
def G2{g:bh}(hf:Ua f)(h:∀i,f.getD i 0=g.getD i 0):f.length<=g.length:=by
 rcases hf with e |⟨ys,a,e,ha⟩;·subst e;exact bR _
 ·rcases Gg g.length f.length with z |z;·have h1:=h ys.length;subst e;rw[tU (g:=g) (i:=ys.length)<|by simp at z;lia]at h1;rw[List.getD_eq_getElem?_getD,List.getElem?_append_right<|ar _,xo]at h1;exact absurd h1 ha
  ·exact z
def Jy{g:bh}(hf:Ua f)(hg:Ua g)(h:∀i,f.getD i 0=g.getD i 0):f=g:=by have h1:=G2 hf h;have h2:=G2 hg λi=>(h i).symm;refine List.ext_getElem (by lia) λi h3 h4=>?_;have:=h i;rw[vd h3,vd h4]at this;exact this
def GD(xs:bh):Ua (fX xs):=Jh xs
def fy:Nat->(Nat->Int)->Int|0,_=>0|n+1,h=>fy n h+h n
def qI(h:Nat->Int):∀n,fy (n+1) h=h 0+fy n (λi=>h<|i+1)|0=>by simp[fy]|n+1=>by rw[fy,qI h n,fy];lia
def rN(h g:Nat->Int):∀n,fy n (λi=>h i+g i)=fy n h+fy n g|0=>rfl|n+1=>by rw[fy,rN h g n,fy,fy];lia
def dX{h g:Nat->Int}:∀n,(∀i,i<n->h i=g i)->fy n h=fy n g|0,_=>rfl|n+1,e=>by rw[fy,fy,dX n λi hi=>e i<|by lia,e n<|by lia]
def mv:∀n,fy n (λ_=>0)=0|0=>rfl|n+1=>by rw[fy,mv n];rfl
def rs:bh->(Nat->Int)->Int|[],_=>0|a::f,ψ=>a*ψ 0+rs f (λi=>ψ<|i+1)
def jg:∀(f:bh)(n:Nat)(ψ:Nat->Int),f.length<=n->rs f ψ=fy n (λi=>f.getD i 0*ψ i)
 |[],n,ψ,_=>by exact((dX (g:=λ_=>0) n λi _=>by simp).trans<|mv n).symm|a::f,0,ψ,h=>by simp at h
 |a::f,n+1,ψ,h=>by rw[rs,qI,jg f n _<|by simpa using h];rfl
def G0:∀(f:bh)(i:Nat),rs f (λj=>if j=i then 1 else 0)=f.getD i 0
 |[],i=>by simp[rs]
 |a::f,0=>by
  have e:rs f (λj=>if j+1=0 then 1 else 0)=0:=by have:(λj:Nat=>if j+1=0 then(1:Int)else 0)=λ_=>0:=funext λj=>av (by lia);rw[this,jg f f.length _<|ar _];exact(dX (g:=λ_=>0) _ λi _=>by simp).trans<|mv _
  rw[rs,e];simp
 |a::f,i+1=>by
  have e:(λj:Nat=>if j+1=i+1 then(1:Int)else 0)=λj=>if j=i then 1 else 0:=funext λj=>by
   by_cases h:j=i;·rw[ax h,ax<|by lia]
   ·rw[av h,av<|by lia]
  rw[rs,e,G0 f i];simp
def G1{f g:bh}(h:∀i,f.getD i 0=g.getD i 0)(ψ:Nat->Int):rs f ψ=rs g ψ:=by rw[jg f (max f.length g.length) ψ<|by lia,jg g (max f.length g.length) ψ<|by lia];exact dX _ λi _=>by rw[h i]
def Af(ψ:Nat->Int)(h:∀i,ψ i=0)(f:bh):rs f ψ=0:=by rw[jg f f.length ψ<|ar _];exact(dX (g:=λ_=>0) _ λi _=>by rw[h i];simp).trans<|mv _
def GX:∀(f:bh)(m:Nat)(v:Int)(ψ:Nat->Int),m<f.length->rs (f.set m v) ψ=rs f ψ+(v-f.getD m 0)*ψ m
 |[],m,v,ψ,h=>by simp at h|a::f,0,v,ψ,_=>by show v*ψ 0+_=a*ψ 0+_+(v-a)*ψ 0;rw[Int.sub_mul];lia
 |a::f,m+1,v,ψ,h=>by show a*ψ 0+rs (f.set m v) _=a*ψ 0+rs f _+(v-f.getD m 0)*ψ (m+1);rw[GX f m v _<|by simpa using h];lia
def Jx(ψ χ:Nat->Int):∀(f:bh),rs f (λi=>ψ i+χ i)=rs f ψ+rs f χ:=λf=>by rw[jg f f.length _<|ar _,jg f f.length _<|ar _,jg f f.length _<|ar _,<-rN];exact dX _ λi _=>by rw[IZ]
abbrev Bd:=List bh
def t5(b:Bd)(i k:Nat):Int:=(b.getD k []).getD i 0
def bs:Bd->(Nat->Nat->Int)->Int|[],_=>0|r::b,φ=>rs r (λi=>φ i 0)+bs b (λi k=>φ i<|k+1)
def qb(i k:Nat):Nat->Nat->Int:=λa c=>if a=i/\c=k then 1 else 0
def A4:∀(b:Bd)(φ:Nat->Nat->Int),(∀i k,φ i k=0)->bs b φ=0|[],_,_=>rfl|r::b,φ,h=>by rw[bs,Af _ λi=>h i 0,A4 b _ λi k=>h i<|k+1];rfl
def A6:∀(b:Bd)(i k:Nat),bs b (qb i k)=t5 b i k
 |[],i,k=>by simp[bs,t5]
 |r::b,i,0=>by
  rw[bs,A4 b (λa c=>qb i 0 a<|c+1) λa c=>av<|by lia];have e:(λa:Nat=>qb i 0 a 0)=λa=>if a=i then 1 else 0:=funext λa=>by
   unfold qb;by_cases h:a=i;·rw[ax ⟨h,rfl⟩,ax h]
   ·rw[av λz=>h z.1,av h]
  rw[e,G0];simp[t5]
 |r::b,i,k+1=>by
  have e:rs r (λa=>qb i (k+1) a 0)=0:=Af _ (λa=>av<|by lia) r;have e2:(λa c:Nat=>qb i (k+1) a<|c+1)=qb i k:=funext λa=>funext λc=>by
   unfold qb;by_cases h:a=i/\c=k;·rw[ax h,ax ⟨h.1,by lia⟩]
   ·rw[av h,av λz=>h ⟨z.1,by lia⟩]
  rw[bs,e,e2,A6 b i k];simp[t5]
def Iw:∀(b:Bd)(m:Nat)(r:bh)(φ:Nat->Nat->Int),m<b.length->bs (b.set m r) φ=bs b φ+(rs r (λi=>φ i m)-rs (b.getD m []) (λi=>φ i m))
 |[],m,r,φ,h=>by simp at h|a::b,0,r,φ,_=>by show rs r _+_=rs a _+_+(rs r _-rs a _);lia
 |a::b,m+1,r,φ,h=>by show rs a _+bs (b.set m r) _=rs a _+bs b _+(rs r _-rs (b.getD m []) _);rw[Iw b m r _<|by simpa using h];lia
def oU:∀(b:Bd)(n:Nat)(φ:Nat->Nat->Int),b.length<=n->bs b φ=fy n (λk=>rs (b.getD k []) λi=>φ i k)
 |[],n,φ,_=>by exact((dX (g:=λ_=>0) n λi _=>by simp[rs]).trans<|mv n).symm|r::b,0,φ,h=>by simp at h
 |r::b,n+1,φ,h=>by rw[bs,qI,oU b n _<|by simpa using h];rfl
abbrev bo(b:Bd):D:=.tup<|b.map cG
abbrev vS(b:Bd):D:=.lst<|b.map cG
def fM(xs:Bd):Bd:=(xs.reverse.dropWhile (·==[])).reverse
def kx(xs:Bd):fM (xs++[[]])=fM xs:=by simp[fM]
def ky{a:bh}(xs:Bd)(h:a≠[]):fM (xs++[a])=xs++[a]:=by simp[fM,h]
def tE(xs:Bd):(fM xs).length<=xs.length:=by unfold fM;rw[pX];have:=(xq (l:=xs.reverse) (p:=λx=>x==[])).length_le;rw[pX]at this;exact this
def Fl(xs:Bd):xs.take (fM xs).length=fM xs:=by
 induction h:xs.length generalizing xs with
 |zero=>rw[bx h];rfl
 |succ n ih=>
  rcases eG xs with e |⟨ys,y,e⟩;·subst e;rfl
  ·rw[eI]at e;subst e;by_cases hy:y=[];·subst hy;rw[kx];have q:=ih ys (by simpa using h);have l:=tE ys;rw[IY l];exact q
   ·rw[ky ys hy,bW]
def GE(xs:Bd):fM xs=[]\/∃ys a,fM xs=ys++[a]/\a≠[]:=by
 induction h:xs.length generalizing xs with
 |zero=>left;rw[bx h];rfl
 |succ n ih=>
  rcases eG xs with e |⟨ys,y,e⟩;·subst e;left;rfl
  ·rw[eI]at e;subst e;by_cases hy:y=[];·subst hy;rw[kx];exact ih ys<|by simpa using h
   ·right;exact⟨ys,y,ky ys hy,hy⟩
def xS(ys:Bd)(i:Nat):(ys++[[]]).getD i []=ys.getD i []:=by
 rw[List.getD_eq_getElem?_getD,List.getD_eq_getElem?_getD];by_cases h:i<ys.length;·rw[List.getElem?_append_left h]
 ·rw[List.getElem?_append_right<|by lia,List.getElem?_eq_none (show ys.length<=i by lia)];cases(i-ys.length)with|zero=>rfl|succ n=>rfl
def vz(xs:Bd)(i:Nat):(fM xs).getD i []=xs.getD i []:=by
 induction h:xs.length generalizing xs with
 |zero=>rw[bx h];rfl
 |succ n ih=>
  rcases eG xs with e |⟨ys,y,e⟩;·subst e;rfl
  ·rw[eI]at e;subst e;by_cases hy:y=[];·subst hy;rw[kx,ih ys<|by simpa using h,xS]
   ·rw[ky ys hy]
def FA{x:bh}(h:x∈fM xs):x∈xs:=by unfold fM at h;rw[List.mem_reverse]at h;have:=(xq (l:=xs.reverse) (p:=λx=>x==[])).subset h;exact List.mem_reverse.mp this
def zg(R:Nat->cA)(xs:Bd)(h1:Sg X (R 0) c false)(h2:∀m(h:m<xs.length),Sg X (R<|m+1) c<|decide<|xs[m]=[])(h3:∀m,Sf X (R<|m+1) body<|.nx<|R m):∀m,m<=xs.length->∃n,T3 X c body n (R m) (.nx<|R (fM<|xs.take m).length)
 |0,_=>⟨0,.stop h1⟩
 |m+1,hm=>by
  have S1:m<xs.length:=hm;have e:xs.take (m+1)=xs.take m++[xs[m]]:=mr<|List.getElem?_eq_getElem S1;by_cases hz:xs[m]=[];·obtain⟨n,q⟩:=zg R xs h1 h2 h3 m (by lia);refine⟨n+1,.step (Sg.eq (h2 m S1)<|ap hz) (h3 m) ?_⟩;rw[e,hz,kx];exact q
  ·refine⟨0,?_⟩;rw[e,ky _ hz];have el:(xs.take m++[xs[m]]).length=m+1:=by rw[<-e,cQ];lia
   rw[el];exact .stop<|Sg.eq (h2 m S1)<|ak hz
def Bj{i:Int}{n:Nat}{α:Type}{g:α->D}{xs:List α}(h0:0<=i)(hn:i.toNat=n)(h:n<xs.length):kS (xs.map g) i=some (g xs[n]):=by
 rw[show i=((n:Nat):Int)by lia];have e:(xs.map g)[n]?=some (g xs[n]):=by rw[List.getElem?_map,List.getElem?_eq_getElem h];rfl
 exact dJ e
def Cj{m:Nat}{α:Type}(xs:List α)(g:α->D)(h:m<=xs.length):cutD (xs.map g) none (some (m:Int))=(xs.take m).map g:=by
 unfold cutD;rw[aj];have e1:HT.UI xs.length 0 none=0:=by simp[HT.UI]
 have e2:HT.UI xs.length xs.length (some (m:Int))=m:=by simp only[HT.UI];split<;>lia
 rw[e1,e2,NU,Gf,PF]
def jC(ds:aQ)(d:D):Prop:=(∃xs:bh,ds=[eU xs,.int 0]/\xs.length<1000/\d=cG (fX xs))\/∃xs:Bd,ds=[vS xs,.tup []]/\xs.length<1000/\d=bo (fM xs)
def uG:∀ds d,jC ds d->ds.length=2:=by rintro _ _ (⟨a,rfl,_⟩ |⟨a,rfl,_⟩)<;>rfl
def pV(ds:aQ)(d:D):Prop:=(∃(f:bh)(i:Nat),ds=[cG f,.int i,.int 0]/\d=.int (f.getD i 0))\/∃(f:Bd)(i:Nat),ds=[bo f,.int i,.tup []]/\d=cG (f.getD i [])
def B3:∀ds d,pV ds d->ds.length=3:=by rintro _ _ (⟨a,b,rfl,_⟩ |⟨a,b,rfl,_⟩)<;>rfl
def nM(ds:aQ)(d:D):Prop:=∃xs:Bd,ds=[vS xs]/\xs.length<1000/\d=bo (fM xs)
def Av:∀ds d,nM ds d->ds.length=1:=by rintro _ _ ⟨a,rfl,_⟩;rfl
def oC(f g:Bd):Bd:=fM ((List.range<|max f.length g.length).map λk=>oB (f.getD k [])<|g.getD k [])
def Vn(n:Nat)(f:Bd):Prop:=f.length<n/\∀r∈f,r.length<n
def kg(ds:aQ)(d:D):Prop:=∃f g:Bd,ds=[bo f,bo g]/\Vn 1000 f/\Vn 1000 g/\d=bo (oC f g)
def wv:∀ds d,kg ds d->ds.length=2:=by rintro _ _ ⟨a,b,rfl,_⟩;rfl
def wj(g:Bd):Bd:=g.map λr=>r.map λx=>-x
def l7(ds:aQ)(d:D):Prop:=∃f g:Bd,ds=[bo f,bo g]/\Vn 1000 f/\Vn 1000 g/\d=bo (oC f<|wj g)
def uL:∀ds d,l7 ds d->ds.length=2:=by rintro _ _ ⟨a,b,rfl,_⟩;rfl
def kK(f g:Bd)(j:Nat)(acc:Bd):Nat->Bd|0=>acc|k+1=>(kK f g j acc k).set (j+k)<|oB ((kK f g j acc k).getD (j+k) [])<|iD (f.getD j [])<|g.getD k []
def j9(f g:Bd):Nat->Bd|0=>List.replicate (f.length+g.length-1) []|j+1=>kK f g j (j9 f g j) g.length
def sy(f g:Bd)(j:Nat)(acc:Bd):∀k,(kK f g j acc k).length=acc.length|0=>rfl|k+1=>by rw[kK,bq,sy f g j acc k]
def sk(f g:Bd):∀j,(j9 f g j).length=f.length+g.length-1|0=>iZ|j+1=>by rw[j9,sy,sk f g j]
def jd(f g:Bd):Bd:=if f=[]\/g=[]then []else fM<|j9 f g f.length
def sA{xs:Bd}(i:Nat):xs.getD i []=[]\/xs.getD i []∈xs:=by
 rw[List.getD_eq_getElem?_getD];by_cases h:i<xs.length;·right;rw[List.getElem?_eq_getElem h];exact jM _
 ·left;rw[List.getElem?_eq_none<|by lia];rfl
def Vn.get(h:Vn n f)(h0:0<n)(i:Nat):(f.getD i []).length<n:=by
 rcases sA (xs:=f) i with e |e;·rw[e];exact h0
 ·exact h.2 _ e
def vb{g:Bd}{acc:Bd}(hf:Vn 100 f)(hg:Vn 100 g)(j:Nat)(ha:∀r∈acc,r.length<200):∀k,∀r∈kK f g j acc k,r.length<200
 |0,r,hr=>ha r hr
 |k+1,r,hr=>by
  rw[kK]at hr;rcases N1 hr with h |h;·exact vb hf hg j ha k r h
  ·subst h;have h1:=y0 ((kK f g j acc k).getD (j+k) [])<|iD (f.getD j [])<|g.getD k [];have h2:=vK (f.getD j [])<|g.getD k [];have h3:=hf.get (by lia) j;have h4:=hg.get (by lia) k;have h5:((kK f g j acc k).getD (j+k) []).length<200:=by
    rcases sA (xs:=kK f g j acc k) (j+k)with e |e;·rw[e];decide
    ·exact vb hf hg j ha k _ e
   lia
def Ez{g:Bd}(hf:Vn 100 f)(hg:Vn 100 g):∀j,∀r∈j9 f g j,r.length<200|0,r,hr=>by rw[j9]at hr;rw[(List.mem_replicate.mp hr).2];decide|j+1,r,hr=>vb hf hg j (Ez hf hg j) g.length r hr
def LP(b:Bd):Prop:=∀r∈b,∀y∈r,y.natAbs<2 ^ 1000
def jF(ds:aQ)(d:D):Prop:=∃f g:Bd,ds=[bo f,bo g]/\Vn 100 f/\Vn 100 g/\LP f/\LP g/\d=bo (jd f g)
def uK:∀ds d,jF ds d->ds.length=2:=by rintro _ _ ⟨a,b,rfl,_⟩;rfl
def x8(h:DefX P w K mg base k lV (ai ju) X)(Sm:mg "len"=none)(Tz:mg "tuple"=none):Go X lV ju jC:=by
 have t:=h.at';haveI:=h.S5;have b1:=h.bt Sm;have b2:=h.bt Tz;rintro ds d (⟨xs,rfl,hl,rfl⟩ |⟨xs,rfl,hl,rfl⟩)
 ·show Sf X [.val<|eU xs,.val<|.int 0,.un] _ _;refine au (aX t 2<|Se.eq (eC t b1<|Se.ql<|aa t 0)<|by rw[aj]) ?_;refine au (fE t<|Ck (λm=>[.val<|eU xs,.val<|.int 0,.val<|.int (m:Int)]) xs ?_ (λm hm=>?_) (λm=>?_) xs.length<|ar _)<|aw<|bg<|Se.eq (mF t b2<|Ss.toQ<|gu (Se.ql<|aa t 0) eZ<|eO<|aa t 2) ?_;·exact Ui.toT<|nj<|Sg.eq (fg (aa t 2) af) rfl
  ·refine Ui.toT<|ly (Sg.eq (fg (aa t 2) af)<|ap<|by lia)<|pQ<|fH (aY (Se.ql<|aa t 0) (jj (aa t 2) af) ?_)<|aa t 1;exact sS (by lia) (by lia) hm
  ·refine Sf.eq (aw<|BK t 2 rfl af) ?_;have e:((m+1:Nat):Int)-1=(m:Int):=by lia
   show Out.nx [_,_,.val<|.int<|((m+1:Nat):Int)-1]=_;rw[e]
  ·rw[bW,Cj xs D.int<|rJ xs,GC]
 ·show Sf X [.val<|vS xs,.val<|.tup [],.un] _ _;refine au (aX t 2<|Se.eq (eC t b1<|Se.ql<|aa t 0)<|by rw[aj]) ?_;refine au (fE t<|zg (λm=>[.val<|vS xs,.val<|.tup [],.val<|.int (m:Int)]) xs ?_ (λm hm=>?_) (λm=>?_) xs.length<|ar _)<|aw<|bg<|Se.eq (mF t b2<|Ss.toQ<|gu (Se.ql<|aa t 0) eZ<|eO<|aa t 2) ?_;·exact Ui.toT<|nj<|Sg.eq (fg (aa t 2) af) rfl
  ·refine Ui.toT<|ly (Sg.eq (fg (aa t 2) af)<|ap<|by lia)<|pQ<|hW t (Se.p (d:=cG xs[m])<|aY (Se.ql<|aa t 0) (jj (aa t 2) af) ?_) (Se.p (d:=cG [])<|aa t 1) (c7 _) (c7 _)<|nv _ _;exact Bj (by lia) (by lia) hm
  ·refine Sf.eq (aw<|BK t 2 rfl af) ?_;have e:((m+1:Nat):Int)-1=(m:Int):=by lia
   show Out.nx [_,_,.val<|.int<|((m+1:Nat):Int)-1]=_;rw[e]
  ·rw[bW,Cj xs cG<|tE xs,Fl]
def FX(h:DefX P w K mg base k uf (ai pJ) X)(Sm:mg "len"=none):Go X uf pJ pV:=by
 have t:=h.at';have b1:=h.bt Sm;rintro ds d (⟨f,i,rfl,rfl⟩ |⟨f,i,rfl,rfl⟩)
 ·show Sf X [.val<|cG f,.val<|.int i,.val<|.int 0] _ _;by_cases hi:i<f.length;·exact aw<|bg<|wL (Sg.eq (fZ (aa t 1)<|eC t b1<|Se.qt<|aa t 0)<|ap<|by rw[aj];lia)<|aY (Se.qt<|aa t 0) (aa t 1)<|xg hi
  ·refine aw<|bg<|wM (Sg.eq (fZ (aa t 1)<|eC t b1<|Se.qt<|aa t 0)<|ak<|by rw[aj];lia)<|Se.eq (aa t 2) ?_;rw[List.getD_eq_getElem?_getD,List.getElem?_eq_none<|by lia];rfl
 ·show Sf X [.val<|bo f,.val<|.int i,.val<|.tup []] _ _;by_cases hi:i<f.length;·refine aw<|bg<|wL (Sg.eq (fZ (aa t 1)<|eC t b1<|Se.qt<|aa t 0)<|ap<|by rw[aj];lia)<|aY (Se.qt<|aa t 0) (aa t 1) ?_;rw[Bj (g:=cG) (n:=i) (by lia) (by lia) hi,List.getD_eq_getElem?_getD,List.getElem?_eq_getElem hi];rfl
  ·refine aw<|bg<|wM (Sg.eq (fZ (aa t 1)<|eC t b1<|Se.qt<|aa t 0)<|ak<|by rw[aj];lia)<|Se.eq (aa t 2) ?_;rw[List.getD_eq_getElem?_getD,List.getElem?_eq_none<|by lia];rfl
def IA(h:DefX P w K mg base k xm (ai rZ) X)(c1:Callee X "without_end" jC):Go X xm rZ sW:=by rintro ds d ⟨xs,rfl,hl,rfl⟩;have t:=h.at';show Sf X [.val<|eU xs] _ _;exact aw<|bg<|aG t c1 (ac (aa t 0)<|ac af ah)<|.inl ⟨xs,rfl,hl,rfl⟩
def DT(h:DefX P w K mg base k rf (ai mZ) X)(c1:Callee X "without_end" jC):Go X rf mZ nM:=by rintro ds d ⟨xs,rfl,hl,rfl⟩;have t:=h.at';show Sf X [.val<|vS xs] _ _;exact aw<|bg<|aG t c1 (ac (aa t 0)<|ac (aF ah) ah)<|.inr ⟨xs,rfl,hl,rfl⟩
def DS(h:DefX P w K mg base k re (ai mY) X)(UT:mg "max"=none)(Sm:mg "len"=none)(Sw:mg "range"=none)(c1:Callee X "row_of" sW)(c2:Callee X "part_at" pV):Go X re mY nK:=by rintro ds d ⟨f,g,rfl,hf,hg,rfl⟩;have t:=h.at';haveI:=h.S5;have b1:=h.bt UT;have b2:=h.bt Sm;have b3:=h.bt Sw;show Sf X [.val<|cG f,.val<|cG g,.un] _ _;refine au (aX (d:=.int ((max f.length g.length:Nat):Int)) t 2<|Se.eq (lz t b1 (eC t b2<|Se.qt<|aa t 0)<|eC t b2<|Se.qt<|aa t 1)<|by rw[aj,aj];congr 1;lia) ?_;refine aw<|bg<|aG t c1 (ac (d:=eU ((List.range<|max f.length g.length).map λi=>f.getD i 0+g.getD i 0)) (Se.eq (Ss.SF (ka (rs:=(List.range<|max f.length g.length).map λi=>D.int<|f.getD i 0+g.getD i 0) t ["f","g","many","power"] (IV<|by decide) (fz t b3 (aa t 2) (by lia)<|by lia) (by simp[dY];exact vL<|by lia) λX' cx=>?_))<|by show D.lst _=D.lst _;rw[cj];rfl) ah) ⟨_,rfl,by rw[aj,i8];lia,rfl⟩;rw[aO];exact Tf.gen (λ(i:Nat)=>D.int<|0+(i:Int)) _ (λ(i:Nat)=>[.val<|cG f,.val<|cG g,.val<|.int ((max f.length g.length:Nat):Int),.val<|.int (i:Int)]) _ _ (λx hx=>by rw[jN];exact df cx.at' 3) (λx hx y hy=>by rw[jN];exact df cx.at' 3) λx hx=>bK (aG cx.at' (cx.callee c2) (ac (aa cx.at' 0 rfl)<|ac (aa cx.at' 3 rfl)<|ac af ah)<|.inl ⟨f,x,rfl,rfl⟩)<|aG cx.at' (cx.callee c2) (ac (aa cx.at' 1 rfl)<|ac (aa cx.at' 3 rfl)<|ac af ah)<|.inl ⟨g,x,rfl,rfl⟩
def Be(h:DefX P w K mg base k nH (ai j5) X)(UT:mg "max"=none)(Sm:mg "len"=none)(Sw:mg "range"=none)(c1:Callee X "board_of" nM)(c2:Callee X "row_plus" nK)(c3:Callee X "part_at" pV):Go X nH j5 kg:=by rintro ds d ⟨f,g,rfl,hf,hg,rfl⟩;have t:=h.at';haveI:=h.S5;have b1:=h.bt UT;have b2:=h.bt Sm;have b3:=h.bt Sw;have lf:=hf.1;have lg:=hg.1;show Sf X [.val<|bo f,.val<|bo g,.un] _ _;refine au (aX (d:=.int ((max f.length g.length:Nat):Int)) t 2<|Se.eq (lz t b1 (eC t b2<|Se.qt<|aa t 0)<|eC t b2<|Se.qt<|aa t 1)<|by rw[aj,aj];congr 1;lia) ?_;refine aw<|bg<|aG t c1 (ac (d:=vS ((List.range<|max f.length g.length).map λk=>oB (f.getD k [])<|g.getD k [])) (Se.eq (Ss.SF (ka (rs:=(List.range<|max f.length g.length).map λk=>cG<|oB (f.getD k [])<|g.getD k []) t ["f","g","many","power"] (IV<|by decide) (fz t b3 (aa t 2) (by lia)<|by lia) (by simp[dY];exact vL<|by lia) λX' cx=>?_))<|by show D.lst _=D.lst _;rw[cj];rfl) ah) ⟨_,rfl,by rw[aj,i8];lia,rfl⟩;rw[aO];exact Tf.gen (λ(i:Nat)=>D.int<|0+(i:Int)) _ (λ(i:Nat)=>[.val<|bo f,.val<|bo g,.val<|.int ((max f.length g.length:Nat):Int),.val<|.int (i:Int)]) _ _ (λx hx=>by rw[jN];exact df cx.at' 3) (λx hx y hy=>by rw[jN];exact df cx.at' 3) λx hx=>aG cx.at' (cx.callee c2) (ac (aG cx.at' (cx.callee c3) (ac (aa cx.at' 0 rfl)<|ac (aa cx.at' 3 rfl)<|ac (aF ah) ah)<|.inr ⟨f,x,rfl,rfl⟩)<|ac (aG cx.at' (cx.callee c3) (ac (aa cx.at' 1 rfl)<|ac (aa cx.at' 3 rfl)<|ac (aF ah) ah)<|.inr ⟨g,x,rfl,rfl⟩) ah) ⟨_,_,rfl,hf.get (by lia) x,hg.get (by lia) x,rfl⟩
def yb(h:DefX P w K mg base k lX (ai jv) X)(Tz:mg "tuple"=none)(c1:Callee X "board_plus" kg)(c2:Callee X "other_sign" nL):Go X lX jv l7:=by
 rintro ds d ⟨f,g,rfl,hf,hg,rfl⟩;have t:=h.at';haveI:=h.S5;have b1:=h.bt Tz;show Sf X [.val<|bo f,.val<|bo g] _ _;refine aw<|bg<|aG t c1 (ac (aa t 0)<|ac (d:=bo<|wj g) (Se.eq (mF t b1<|Ss.toQ (ka (rs:=g.map λr=>cG (r.map λx=>-x)) t ["f","g","row"] (IV<|by decide) (Ih<|aa t 1) (by rw[aj];exact vL hg.1) λX' cx=>?_))<|by show D.tup _=D.tup _;unfold wj;rw[cj];rfl) ah) ⟨f,wj g,rfl,hf,?_,rfl⟩;·exact Tf.gen cG _ (λr=>[.val<|bo f,.val<|bo g,.val<|cG r]) _ _ (λx hx=>df cx.at' 2) (λx hx y hy=>df cx.at' 2) λx hx=>aG cx.at' (cx.callee c2) (ac (aa cx.at' 2 rfl) ah) ⟨x,rfl,hg.2 x hx,rfl⟩
 ·unfold wj;refine⟨by rw[aj];exact hg.1,λr hr=>?_⟩;obtain⟨q,hq,rfl⟩:=List.mem_map.mp hr;rw[aj];exact hg.2 q hq
def G4(n:Nat):(List.replicate n [D.tup []]).flatten=(List.replicate n ([]:bh)).map cG:=by induction n with|zero=>rfl|succ n ih=>rw[bc,cY,ih,bc,aP];rfl
def kM(f:Bd):(fS<|bo f).eqv (fS<|.tup [])=decide (f=[]):=by show(PyData.tuple<|Sq<|f.map cG).eqv (.tuple<|Sq [])=_;cases f with|nil=>simp[Sq,PyData.eqv,PyData.eqvAll]|cons r f=>simp[Sq,PyData.eqv,PyData.eqvAll]
def Fn(n:Nat)(d:D):Prop:=(fS d).canLay0=true/\(fS d).depth<=n/\(fS d).eqv (fS d)=true
def Fn.int(i:Int):Fn 1 (.int i):=⟨rfl,by simp[fS,PyData.depth],by simp[fS,PyData.eqv]⟩
def Fn.bl(b:Bool):Fn 1 (.bl b):=⟨rfl,by simp[fS,PyData.depth],by simp[fS,PyData.eqv]⟩
def Fn.all:∀{xs:aQ},(∀x∈xs,Fn n x)->PyData.canLayAll0 (Sq xs)=true/\PyData.depthAll (Sq xs)<=n/\PyData.eqvAll (Sq xs) (Sq xs)=true
 |[],_=>⟨rfl,by simp[Sq,PyData.depthAll],by simp[Sq,PyData.eqvAll]⟩
 |x::xs,h=>by
  obtain⟨a1,a2,a3⟩:=h x (by simp);obtain⟨b1,b2,b3⟩:=Fn.all (xs:=xs) λy hy=>h y (by simp[hy]);refine⟨?_,?_,?_⟩;·simp only[Sq,PyData.canLayAll0,a1,b1];rfl
  ·simp only[Sq,PyData.depthAll];lia
  ·simp only[Sq,PyData.eqvAll,a3,b3];rfl
def Fn.tup{xs:aQ}(h:∀x∈xs,Fn n x):Fn (n+1) (.tup xs):=by obtain⟨b1,b2,b3⟩:=Fn.all h;exact⟨by simp only[fS,PyData.canLay0];exact b1,by simp only[fS,PyData.depth];lia,by simp only[fS,PyData.eqv];exact b3⟩
def Fn.lst{xs:aQ}(h:∀x∈xs,Fn n x):Fn (n+1) (.lst xs):=by obtain⟨b1,b2,b3⟩:=Fn.all h;exact⟨by simp only[fS,PyData.canLay0];exact b1,by simp only[fS,PyData.depth];lia,by simp only[fS,PyData.eqv];exact b3⟩
def Fn.sh(h:Fn n d)(hn:n<=64):SeqAt.shaped (fS d)=true:=by show((fS d).canLay0&&decide ((fS d).depth<=64))=true;rw[h.1,ap<|ao h.2.1 hn];rfl
def HW(r:bh):Fn 2 (cG r):=Fn.tup λx hx=>by obtain⟨i,_,rfl⟩:=List.mem_map.mp hx;exact Fn.int i
def B8(b:Bd):Fn 3 (bo b):=Fn.tup λx hx=>by obtain⟨r,_,rfl⟩:=List.mem_map.mp hx;exact HW r
def Kg(b:Bd):Fn 3 (vS b):=Fn.lst λx hx=>by obtain⟨r,_,rfl⟩:=List.mem_map.mp hx;exact HW r
def iF(f:Bd):SeqAt.shaped (fS<|bo f)=true:=(B8 f).sh<|by decide
def ya(h:DefX P w K mg base k lW (ai gN) X)(Uw:mg "enumerate"=none)(Sm:mg "len"=none)(c1:Callee X "board_of" nM)(c2:Callee X "row_plus" nK)(c3:Callee X "row_times" pw):Go X lW gN jF:=by
 rintro ds d ⟨f,g,rfl,hf,hg,ha,hb,rfl⟩;have t:=h.at';haveI:=h.S5;have b1:mf X (ai gN) "enumerate" (.type "enumerate"):=Ix (by rw[h.Up];exact Uw) rfl (by decide);have b2:=h.bt Sm;have s0:SeqAt.shaped (fS<|.tup [])=true:=c7 [];show Sf X [.val<|bo f,.val<|bo g,.un,.un,.un,.un,.un] _ _;by_cases h1:f=[];·refine fm<|dD (Ui.toT<|tW<|hW t (Se.p<|aa t 0) (Se.p (d:=.tup [])<|aF ah) (iF _) s0<|by rw[kM,h1];rfl)<|aw<|bg<|Se.eq (d:=.tup []) (aF ah) ?_;unfold jd;rw[ax<|.inl h1];rfl
 by_cases h2:g=[];·refine fm<|dD (Ui.toT<|lR (hW t (Se.p<|aa t 0) (Se.p (d:=.tup [])<|aF ah) (iF _) s0<|by rw[kM,ak h1])<|oO<|hW t (Se.p<|aa t 1) (Se.p (d:=.tup [])<|aF ah) (iF _) s0<|by rw[kM,h2];rfl)<|aw<|bg<|Se.eq (d:=.tup []) (aF ah) ?_;unfold jd;rw[ax<|.inr h2];rfl
 have et:jd f g=fM (j9 f g f.length):=by unfold jd;rw[av λz=>z.elim h1 h2]
 have lf:=List.length_pos_iff.mpr h1;have lg:=List.length_pos_iff.mpr h2;have lf':=hf.1;have lg':=hg.1;refine au (cB (Ui.toT<|lR (hW t (Se.p<|aa t 0) (Se.p (d:=.tup [])<|aF ah) (iF _) s0<|by rw[kM,ak h1])<|oO<|hW t (Se.p<|aa t 1) (Se.p (d:=.tup [])<|aF ah) (iF _) s0<|by rw[kM,ak h2]) bQ) ?_;have en:((f.length:Int)+g.length-1).toNat=f.length+g.length-1:=by lia
 refine au (iH (xs:=(j9 f g 0).map cG) t 2<|Ss.eq (t4 (n:=(f.length:Int)+g.length-1) (Ss.SF<|bE<|ac (aF ah) ah) (Se.eq (jj (bK (eC t b2<|Se.qt<|aa t 0)<|eC t b2<|Se.qt<|aa t 1) af)<|by rw[aj,aj]) (by lia) (by lia)<|by rw[en];have:=y8;simp;lia)<|by rw[en,G4];rfl) ?_;refine au (ρ':=[.val<|bo f,.val<|bo g,.own<|(j9 f g f.length).map cG,.un,.un,.un,.un]) (ik t (vj t b1<|aa t 0)<|SJ.SY (λi=>[.val<|bo f,.val<|bo g,.own<|(j9 f g i).map cG,.un,.un,.un,.un]) (λi d hi=>?_) rfl ?_) ?_
 ·obtain⟨e,he,rfl⟩:=mH hi;rw[List.getElem?_map]at he;cases hx:f[i]? with
  |none=>rw[hx]at he;cases he
  |some x=>
  rw[hx]at he;cases he;have hi':i<f.length:=(List.getElem?_eq_some_iff.mp hx).1;have ex:f.getD i []=x:=by rw[List.getD_eq_getElem?_getD,hx];rfl
  refine⟨_,pS t 3 4,Sf.weak (ρ1:=[.val<|bo f,.val<|bo g,.own<|(j9 f g<|i+1).map cG,.val<|.int i,.val<|cG x,.un,.un]) (aw<|ik t (vj t b1<|aa t 1)<|SJ.SY (λj=>[.val<|bo f,.val<|bo g,.own<|(kK f g i (j9 f g i) j).map cG,.val<|.int i,.val<|cG x,.un,.un]) (λj d hj=>?_) rfl ?_)<|.keep<|.keep<|.keep<|.forget<|.forget<|.keep<|.keep .nil⟩
  ·obtain⟨e,he,rfl⟩:=mH hj;rw[List.getElem?_map]at he;cases hy:g[j]? with
   |none=>rw[hy]at he;cases he
   |some y=>
   rw[hy]at he;cases he;have hj':j<g.length:=(List.getElem?_eq_some_iff.mp hy).1;have ey:g.getD j []=y:=by rw[List.getD_eq_getElem?_getD,hy];rfl
   have hl:(kK f g i (j9 f g i) j).length=f.length+g.length-1:=by rw[sy,sk]
   have S1:i+j<(kK f g i (j9 f g i) j).length:=by lia
   have e1:((i:Int)+(j:Int))=((i+j:Nat):Int):=by lia
   have hix:kS ((kK f g i (j9 f g i) j).map cG) ((i:Int)+(j:Int))=some (cG<|(kK f g i (j9 f g i) j).getD (i+j) []):=by rw[Bj (g:=cG) (n:=i+j) (by lia) (by lia) S1,List.getD_eq_getElem?_getD,List.getElem?_eq_getElem S1];rfl
   have h3:=hf.get (by lia) i;have h4:=hg.get (by lia) j;have h5:((kK f g i (j9 f g i) j).getD (i+j) []).length<200:=by
    rcases sA (xs:=kK f g i (j9 f g i) j) (i+j)with e |e;·rw[e];decide
    ·exact vb hf hg i (Ez hf hg i) j _ e
   have h6:=vK (f.getD i [])<|g.getD j [];rw[ex]at h3 h6;rw[ey]at h4 h6;refine⟨_,pS t 5 6,Sf.weak (aw<|la t (aG t c2 (ac (aY (hV t 2 rfl) (bK (aa t 3)<|aa t 5) hix)<|ac (aG t c3 (ac (aa t 4)<|ac (aa t 6) ah) ⟨x,y,rfl,h3,h4,(λp hp q hq=>mD (k:=1000) (by decide) (ha x (List.mem_of_getElem? hx) p hp)<|hb y (List.mem_of_getElem? hy) q hq),rfl⟩) ah) ⟨_,_,rfl,by lia,by lia,rfl⟩)<|Kx (j:=i+j) t 2 rfl (bK (aa t 3)<|aa t 5) ?_) ?_⟩;·rw[aj];exact Dt (by lia) (by lia)<|by lia
   ·rw[kK,List.map_set,ex,ey];exact .keep<|.keep<|.keep<|.keep<|.keep<|.forget<|.forget .nil
  ·rw[mG,aj];rfl
 ·rw[mG,aj]
 ·refine eE 2 rfl<|aw<|bg<|Se.eq (aG t c1 (ac (aa t 2) ah) ⟨j9 f g f.length,rfl,by rw[sk];lia,rfl⟩) ?_;rw[et]
abbrev nk(i k:Nat):bh:=[(i:Int),(k:Int)]
def MP{k:Nat}(h:nk i k=nk a c):i=a/\k=c:=by have h1:=(PH h).1;have h2:=(PH (PH h).2).1;lia
def ds:fA->(Nat->Nat->Int)->Int|[],_=>0|p::r,φ=>p.2*φ (p.1.getD 0 0).toNat (p.1.getD 1 0).toNat+ds r φ
structure TX(kvs:fA):Prop where
 keys:∀p∈kvs,∃i k:Nat,p.1=nk i k
 nd:(kvs.map (·.1)).Nodup
def TX.nil:TX []:=⟨λ_ h=>(nomatch h),List.nodup_nil⟩
def mq(p:bh×Int)(r:fA)(k:bh):du (p::r) k=if p.1=k then some p.2 else du r k:=by
 unfold du;rw[List.find?_cons];by_cases h:p.1=k;·rw[ax h,ap h];rfl
 ·rw[av h,ak h]
def tu{k:bh}:∀{kvs:fA},(∀p∈kvs,p.1≠k)->du kvs k=none|[],_=>rfl|p::r,h=>by rw[mq,av<|h p<|by simp,tu λq hq=>h q<|by simp[hq]]
def mo:∀{kvs:fA},(kvs.map (·.1)).Nodup->(k,v)∈kvs->du kvs k=some v
 |[],_,h=>nomatch h
 |p::r,nd,h=>by
  rw[aP,dG]at nd;rw[mq];rcases List.mem_cons.mp h with e |h;·rw[<-e,ax rfl]
  ·have hm:k∈r.map (·.1):=List.mem_map.mpr ⟨_,h,rfl⟩;rw[av λz:p.1=k=>nd.1<|by rw[z];exact hm,mo nd.2 h]
def BN{q:bh×Int}(h:q∈gE kvs k v):q=(k,v)\/q∈kvs:=by
 unfold gE at h;split at h
 ·obtain⟨p,hp,e⟩:=List.mem_map.mp h;by_cases z:p.1=k;·rw[ax z]at e;left;rw[<-e,z]
  ·rw[av z]at e;right;rw[<-e];exact hp
 ·rcases List.mem_append.mp h with h |h;·exact .inr h
  ·exact .inl<|bu.mp h
def Ft:(gE kvs k v).map (·.1)=if(du kvs k).isSome=true then kvs.map (·.1)else kvs.map (·.1)++[k]:=by
 unfold gE;split;·rw[cj];refine CL λp _=>?_;show(if p.1=k then(p.1,v)else p).1=p.1;split<;>rfl
 ·rw[aN];rfl
def TX.put(h:TX kvs)(i k:Nat)(v:Int):TX (gE kvs (nk i k) v):=by
 refine⟨λp hp=>?_,?_⟩
 ·rcases BN hp with e |e;·exact⟨i,k,by rw[e]⟩
  ·exact h.keys p e
 ·rw[Ft];split;·exact h.nd
  ·rename_i hn;refine List.nodup_append.mpr ⟨h.nd,by simp,λa ha b hb e=>hn ?_⟩;rw[bu]at hb;subst hb e;obtain⟨p,hp,e⟩:=List.mem_map.mp ha;have:du kvs p.1=some p.2:=mo h.nd hp;rw[<-e,this];rfl
def ze(φ:Nat->Nat->Int):∀(a b:fA),ds (a++b) φ=ds a φ+ds b φ|[],b=>by simp[ds]|p::a,b=>by rw[List.cons_append,ds,ds,ze φ a b];lia
def EZ(φ:Nat->Nat->Int)(i k:Nat)(v:Int):∀(kvs:fA),(kvs.map (·.1)).Nodup->ds (kvs.map λp=>if p.1=nk i k then(p.1,v)else p) φ=ds kvs φ+(match du kvs (nk i k)with |some o=>(v-o)*φ i k |none=>0)
 |[],_=>rfl
 |p::r,nd=>by
  rw[aP,dG]at nd;rw[aP,ds,ds,EZ φ i k v r nd.2,mq];by_cases e:p.1=nk i k
  ·rw[ax e,ax e,tu λq hq z=>nd.1<|by rw[e,<-z];exact List.mem_map.mpr ⟨_,hq,rfl⟩];have e1:(p.1.getD 0 0).toNat=i:=by rw[e];simp
   have e2:(p.1.getD 1 0).toNat=k:=by rw[e];simp
   simp only[e1,e2];rw[Int.sub_mul];lia
  ·rw[av e,av e];lia
def Ik(h:TX kvs)(i k:Nat)(v:Int)(φ:Nat->Nat->Int):ds (gE kvs (nk i k) v) φ=ds kvs φ+(v-(du kvs<|nk i k).getD 0)*φ i k:=by unfold gE;cases e:du kvs (nk i k)with|none=>rw[av<|by simp,ze];show ds kvs φ+(v*φ i k+0)=_;simp|some o=>rw[ax<|by rfl,EZ φ i k v kvs h.nd,e];rfl
def Ny(h:TX kvs)(i k:Nat):ds kvs (qb i k)=(du kvs<|nk i k).getD 0:=by
 obtain⟨hk,nd⟩:=h;induction kvs with
 |nil=>rfl
 |cons p r ih=>
  rw[aP,dG]at nd;obtain⟨a,c,e⟩:=hk p (by simp);have e1:(p.1.getD 0 0).toNat=a:=by rw[e];simp
  have e2:(p.1.getD 1 0).toNat=c:=by rw[e];simp
  have ih':=ih (λq hq=>hk q<|by simp[hq]) nd.2;rw[ds,ih',mq,e1,e2];by_cases z:a=i/\c=k
  ·have q:p.1=nk i k:=by rw[e,z.1,z.2]
   rw[ax q,tu λx hx w=>nd.1<|by rw[q,<-w];exact List.mem_map.mpr ⟨_,hx,rfl⟩];unfold qb;rw[ax z];simp
  ·rw[av λq=>z<|MP<|e.symm.trans q];unfold qb;rw[av z];simp
def nz(kvs:fA):Bd:=fM ((List.range 10).map λk=>fX ((List.range 10).map λi=>(du kvs<|nk i k).getD 0))
def SH(b:Bd):Prop:=(b=[]\/∃ys a,b=ys++[a]/\a≠[])/\∀r∈b,Ua r
def vU(n i:Nat)(h:Nat->Int):((List.range n).map h).getD i 0=if i<n then h i else 0:=by
 rw[List.getD_eq_getElem?_getD,List.getElem?_map];by_cases e:i<n;·rw[ax e,List.getElem?_range e];rfl
 ·rw[av e,List.getElem?_eq_none<|by simpa using e];rfl
def vV(n i:Nat)(h:Nat->bh):((List.range n).map h).getD i []=if i<n then h i else []:=by
 rw[List.getD_eq_getElem?_getD,List.getElem?_map];by_cases e:i<n;·rw[ax e,List.getElem?_range e];rfl
 ·rw[av e,List.getElem?_eq_none<|by simpa using e];rfl
def AS(kvs:fA)(i k:Nat):t5 (nz kvs) i k=if i<10/\k<10 then(du kvs<|nk i k).getD 0 else 0:=by
 unfold t5 nz;rw[vz,vV];by_cases hk:k<10
 ·rw[ax hk,tD,vU];by_cases hi:i<10;·rw[ax hi,ax ⟨hi,hk⟩]
  ·rw[av hi,av λz=>hi z.1]
 ·rw[av hk,av λz=>hk z.2];rfl
def lK{xs:Bd}(h:∀r∈xs,Ua r):SH (fM xs):=⟨GE xs,λr hr=>h r<|FA hr⟩
def DO(kvs:fA):SH (nz kvs):=lK λr hr=>by obtain⟨k,_,rfl⟩:=List.mem_map.mp hr;exact GD _
def Ua.nil:Ua []:=.inl rfl
def SH.row(h:SH b)(k:Nat):Ua (b.getD k []):=by
 rcases sA (xs:=b) k with e |e;·rw[e];exact .nil
 ·exact h.2 _ e
def Cu{b:Bd}(ha:SH a)(h:∀k,a.getD k []=b.getD k []):a.length<=b.length:=by
 rcases ha.1 with e |⟨ys,r,e,hr⟩;·subst e;exact bR _
 ·rcases Gg b.length a.length with z |z
  ·have h1:=h ys.length;have e2:b.getD ys.length []=[]:=by rw[List.getD_eq_getElem?_getD,List.getElem?_eq_none<|by rw[e]at z;simp at z;lia];rfl
   rw[e2,e,List.getD_eq_getElem?_getD,List.getElem?_append_right<|ar _,xo]at h1;exact absurd h1 hr
  ·exact z
def FW(ha:SH a)(hb:SH b)(h:∀i k,t5 a i k=t5 b i k):a=b:=by have hr:∀k,a.getD k []=b.getD k []:=λk=>Jy (ha.row k) (hb.row k) λi=>h i k;have h1:=Cu ha hr;have h2:=Cu hb λk=>(hr k).symm;refine List.ext_getElem (by lia) λk h3 h4=>?_;have:=hr k;rw[List.getD_eq_getElem?_getD,List.getD_eq_getElem?_getD,List.getElem?_eq_getElem h3,List.getElem?_eq_getElem h4]at this;exact this
def Fw(f g:bh)(i:Nat):(oB f g).getD i 0=f.getD i 0+g.getD i 0:=by
 unfold oB;rw[tD,vU];by_cases h:i<max f.length g.length;·rw[ax h]
 ·rw[av h,tU (show f.length<=i by lia),tU (show g.length<=i by lia)];rfl
def BQ(f g:bh):Ua (oB f g):=GD _
def v5(f g:Bd):SH (oC f g):=lK λr hr=>by obtain⟨k,_,rfl⟩:=List.mem_map.mp hr;exact BQ _ _
def Ej(f g:bh)(ψ:Nat->Int):rs (oB f g) ψ=rs f ψ+rs g ψ:=by have hl:=y0 f g;rw[jg (oB f g) (max f.length g.length) ψ hl,jg f (max f.length g.length) ψ<|by lia,jg g (max f.length g.length) ψ<|by lia,<-rN];exact dX _ λi _=>by rw[Fw,Int.add_mul]
def BG(c:Int)(h:Nat->Int):∀n,fy n (λi=>c*h i)=c*fy n h|0=>by simp[fy]|n+1=>by rw[fy,BG c h n,fy,IZ]
def GZ(f g:bh)(i:Nat)(acc:bh)(ψ:Nat->Int):∀j,i+j<=acc.length->rs (vc f g i acc j) ψ=rs acc ψ+fy j (λa=>f.getD i 0*(g.getD a 0*ψ (i+a)))
 |0,_=>by simp[vc,fy]
 |j+1,h=>by
  rw[vc,GX _ _ _ _<|by rw[pP];lia,GZ f g i acc ψ j<|by lia,fy];have e:(vc f g i acc j).getD (i+j) 0+f.getD i 0*g.getD j 0-(vc f g i acc j).getD (i+j) 0=f.getD i 0*g.getD j 0:=by lia
  rw[e,PJ];lia
def Jw(n:Nat)(ψ:Nat->Int):rs (List.replicate n 0) ψ=0:=by
 have h:∀i,(List.replicate n (0:Int)).getD i 0=([]:bh).getD i 0:=λi=>by rw[List.getD_eq_getElem?_getD,List.getElem?_replicate];split<;>simp
 rw[G1 h];rfl
def Ek(f g:bh)(ψ:Nat->Int):∀i,i<=f.length->rs (qJ f g i) ψ=fy i (λj=>f.getD j 0*rs g (λa=>ψ<|j+a))|0,_=>by rw[qJ];exact Jw _ _|i+1,h=>by rw[qJ,GZ _ _ _ _ _ _<|by rw[wa];lia,Ek f g ψ i<|by lia,fy,BG,jg g g.length _<|ar _]
def GV(f g:bh)(ψ:Nat->Int):rs (iD f g) ψ=rs f (λi=>rs g λa=>ψ<|i+a):=by unfold iD;rw[G1<|tD _,Ek f g ψ f.length<|ar _,jg f f.length _<|ar _]
def E7(b:Bd)(φ:Nat->Nat->Int):bs (fM b) φ=bs b φ:=by rw[oU (fM b) b.length φ<|tE b,oU b b.length φ<|ar _];exact dX _ λk _=>by rw[vz]
def E9(f g:Bd)(j:Nat)(acc:Bd)(φ:Nat->Nat->Int):∀k,j+k<=acc.length->bs (kK f g j acc k) φ=bs acc φ+fy k (λc=>rs (iD (f.getD j [])<|g.getD c []) λi=>φ i<|j+c)|0,_=>by simp[kK,fy]|k+1,h=>by rw[kK,Iw _ _ _ _<|by rw[sy];lia,E9 f g j acc φ k<|by lia,fy,Ej];lia
def KD(φ:Nat->Nat->Int)(n:Nat):bs (List.replicate n []) φ=0:=by induction n generalizing φ with|zero=>rfl|succ n ih=>rw[bc,bs,ih];rfl
def E8(f g:Bd)(φ:Nat->Nat->Int):∀j,j<=f.length->bs (j9 f g j) φ=fy j (λa=>fy g.length λc=>rs (iD (f.getD a [])<|g.getD c []) λi=>φ i<|a+c)|0,_=>by rw[j9];exact KD _ _|j+1,h=>by rw[j9,E9 _ _ _ _ _ _<|by rw[sk];lia,E8 f g φ j<|by lia,fy]
def Ei(f:bh)(h:Nat->Nat->Int):∀n,rs f (λi=>fy n λc=>h i c)=fy n (λc=>rs f λi=>h i c)|0=>Af _ (λ_=>rfl) f|n+1=>by show rs f (λi=>fy n (λc=>h i c)+h i n)=_;rw[Jx,Ei f h n,fy]
def Ct(f g:Bd)(φ:Nat->Nat->Int):bs (jd f g) φ=bs f (λi j=>bs g λa c=>φ (i+a)<|j+c):=by
 unfold jd;split
 ·rename_i h;rcases h with h |h;·subst h;rfl
  ·subst h;exact(A4 f (λi j=>bs [] λa c=>φ (i+a)<|j+c) λ_ _=>rfl).symm
 ·rw[E7,E8 f g φ f.length<|ar _,oU f f.length _<|ar _];refine dX _ λj _=>?_;have e:(λi:Nat=>bs g λa c=>φ (i+a)<|j+c)=λi=>fy g.length (λc=>rs (g.getD c []) λa=>φ (i+a)<|j+c):=funext λi=>oU g g.length _<|ar _;rw[e,Ei];exact dX _ λc _=>GV _ _ _
def Fit(n:Nat)(b:Bd):Prop:=b.length<=n/\∀k,(b.getD k []).length<=n
def yp(f g:Bd):SH (jd f g):=by
 unfold jd;split;·exact⟨.inl rfl,λ_ h=>(nomatch h)⟩
 ·refine lK ?_;have h1:∀j(acc:Bd),(∀r∈acc,Ua r)->∀k,∀r∈kK f g j acc k,Ua r:=by
   intro j acc ha k;induction k with
   |zero=>exact ha
   |succ k ih=>
    intro r hr;rw[kK]at hr;rcases N1 hr with h |h;·exact ih r h
    ·rw[h];exact BQ _ _
  have h2:∀j,∀r∈j9 f g j,Ua r:=by intro j;induction j with|zero=>intro r hr;rw[j9]at hr;rw[(List.mem_replicate.mp hr).2];exact .nil|succ j ih=>exact h1 j _ ih _
  exact h2 _
def Ng{n:Nat}(hb:SH b)(h:∀i k,n<=i\/n<=k->t5 b i k=0):Fit n b:=by
 have hr:∀k,(b.getD k []).length<=n:=λk=>by
  rcases hb.row k with e |⟨ys,a,e,ha⟩;·rw[e];exact bR _
  ·rcases Gg n (b.getD k []).length with z |z;·rw[e,aq,fL]at z;have:=h ys.length k<|.inl (by lia);unfold t5 at this;rw[e,List.getD_eq_getElem?_getD,List.getElem?_append_right<|ar _,xo]at this;exact absurd this ha
   ·exact z
 refine⟨?_,hr⟩;rcases hb.1 with e |⟨ys,r,e,hn⟩;·rw[e];exact bR _
 ·rcases Gg n b.length with z |z
  ·have hk:b.getD ys.length []=r:=by rw[e,List.getD_eq_getElem?_getD,List.getElem?_append_right<|ar _,xo];rfl
   have Zv:=hb.row ys.length;rw[hk]at Zv;rcases Zv with w |⟨zs,a,w,ha⟩;·exact absurd w hn
   ·rw[e,aq,fL]at z;have:=h zs.length ys.length<|.inr (by lia);unfold t5 at this;rw[hk,w,List.getD_eq_getElem?_getD,List.getElem?_append_right<|ar _,xo]at this;exact absurd this ha
  ·exact z
def VB(M:Nat)(kvs:fA):Prop:=∀p∈kvs,p.2.natAbs<=M
def TM(n:Nat)(kvs:fA):Prop:=∀p∈kvs,∃i k:Nat,p.1=nk i k/\i<n/\k<n
def Ha(kvs:fA)(k:bh)(v:Int):(gE kvs k v).length<=kvs.length+1:=by
 unfold gE;split;·rw[aj];lia
 ·rw[aq,fL];lia
def TM.put{i k:Nat}(h:TM n kvs)(hi:i<n)(hk:k<n)(v:Int):TM n (gE kvs (nk i k) v):=λp hp=>by
 rcases BN hp with e |e;·exact⟨i,k,by rw[e],hi,hk⟩
 ·exact h p e
def BB(M:Nat)(b:Bd):Prop:=∀i k,(t5 b i k).natAbs<=M
def BB.lim(h:BB M b)(hM:M<2 ^ 1000):LP b:=λr hr y hy=>by obtain⟨k,hk,rfl⟩:=pY hr;obtain⟨i,hi,rfl⟩:=pY hy;have:=h i k;unfold t5 at this;rw[List.getD_eq_getElem?_getD (l:=b),List.getElem?_eq_getElem hk]at this;have e:(b[k]).getD i 0=b[k][i]:=vd hi;have e':((some b[k]).getD []).getD i 0=b[k][i]:=e;rw[e']at this;exact bH this hM
def Fit.sm{m:Nat}(h:Fit n b)(hm:n<m):Vn m b:=⟨bH h.1 hm,λr hr=>by obtain⟨k,hk,rfl⟩:=pY hr;have:=h.2 k;rw[List.getD_eq_getElem?_getD,List.getElem?_eq_getElem hk]at this;exact bH this hm⟩
def dy(A B:fA)(s:Int):fA:=B.foldl (λacc q=>gE acc q.1<|(du acc q.1).getD 0+s*q.2) A
def jt(s:Int)(φ:Nat->Nat->Int):∀(B A:fA),TX A->(∀p∈B,∃i k:Nat,p.1=nk i k)->TX (dy A B s)/\ds (dy A B s) φ=ds A φ+s*ds B φ
 |[],A,h,_=>⟨h,by simp[dy,ds]⟩
 |(k,v)::B,A,h,hB=>by
  obtain⟨a,c,e⟩:=hB (k,v) (by simp);have e':k=nk a c:=e;subst e';obtain⟨g1,g2⟩:=jt s φ B (gE A (nk a c)<|(du A<|nk a c).getD 0+s*v) (h.put _ _ _) λp hp=>hB p (by simp[hp]);refine⟨g1,?_⟩;show ds (dy (gE A (nk a c)<|(du A<|nk a c).getD 0+s*v) B s) φ=_;rw[g2,Ik h,ds];show ds A φ+((du A<|nk a c).getD 0+s*v-(du A<|nk a c).getD 0)*φ a c+s*ds B φ=ds A φ+s*(v*φ a c+ds B φ);have e1:(du A<|nk a c).getD 0+s*v-(du A<|nk a c).getD 0=s*v:=by lia
  rw[e1,IZ,<-PJ];lia
abbrev ud(p q:bh):bh:=[p.getD 0 0+q.getD 0 0,p.getD 1 0+q.getD 1 0]
def jh(p:bh×Int)(acc B:fA):fA:=B.foldl (λacc q=>gE acc (ud p.1 q.1)<|(du acc<|ud p.1 q.1).getD 0+p.2*q.2) acc
def lw(A B:fA):fA:=A.foldl (λacc p=>jh p acc B) []
def Bp(a c i k:Nat):ud (nk a c) (nk i k)=nk (a+i) (c+k):=by simp[ud,nk]
def u8(a c:Nat)(v:Int)(φ:Nat->Nat->Int):∀(B acc:fA),TX acc->(∀p∈B,∃i k:Nat,p.1=nk i k)->TX (jh (nk a c,v) acc B)/\ds (jh (nk a c,v) acc B) φ=ds acc φ+v*ds B (λi k=>φ (a+i)<|c+k)/\(jh (nk a c,v) acc B).length<=acc.length+B.length
 |[],acc,h,_=>⟨h,by simp[jh,ds],ar _⟩
 |(k,x)::B,acc,h,hB=>by
  obtain⟨i,j,e⟩:=hB (k,x) (by simp);have e':k=nk i j:=e;subst e';have ea:ud (nk a c) (nk i j)=nk (a+i) (c+j):=Bp a c i j;obtain⟨g1,g2,g3⟩:=u8 a c v φ B (gE acc (nk (a+i)<|c+j)<|(du acc<|nk (a+i)<|c+j).getD 0+v*x) (h.put _ _ _) λp hp=>hB p (by simp[hp]);have e0:jh (nk a c,v) acc ((nk i j,x)::B)=jh (nk a c,v) (gE acc (nk (a+i)<|c+j)<|(du acc<|nk (a+i)<|c+j).getD 0+v*x) B:=by show jh (nk a c,v) (gE acc (ud (nk a c)<|nk i j)<|(du acc<|ud (nk a c)<|nk i j).getD 0+v*x) B=_;rw[ea]
  rw[e0];refine⟨g1,?_,?_⟩
  ·rw[g2,Ik h,ds];have e1:(du acc<|nk (a+i)<|c+j).getD 0+v*x-(du acc<|nk (a+i)<|c+j).getD 0=v*x:=by lia
   have e2:((nk i j).getD 0 0).toNat=i:=by simp
   have e3:((nk i j).getD 1 0).toNat=j:=by simp
   simp only[e2,e3];rw[e1,IZ,<-PJ];lia
  ·have:=Ha acc (nk (a+i)<|c+j)<|(du acc<|nk (a+i)<|c+j).getD 0+v*x;rw[bp];lia
def u7(B:fA)(hB:∀p∈B,∃i k:Nat,p.1=nk i k)(φ:Nat->Nat->Int):∀(A acc:fA),TX acc->(∀p∈A,∃i k:Nat,p.1=nk i k)->TX (A.foldl (λacc p=>jh p acc B) acc)/\ds (A.foldl (λacc p=>jh p acc B) acc) φ=ds acc φ+ds A (λi k=>ds B λa c=>φ (i+a)<|k+c)/\(A.foldl (λacc p=>jh p acc B) acc).length<=acc.length+A.length*B.length
 |[],acc,h,_=>⟨h,by simp[ds],by simp⟩
 |(k,v)::A,acc,h,hA=>by
  obtain⟨a,c,e⟩:=hA (k,v) (by simp);have e':k=nk a c:=e;subst e';obtain⟨f1,f2,f3⟩:=u8 a c v φ B acc h hB;obtain⟨g1,g2,g3⟩:=u7 B hB φ A (jh (nk a c,v) acc B) f1 λp hp=>hA p (by simp[hp]);rw[xA];refine⟨g1,?_,?_⟩
  ·rw[g2,f2,ds];have e2:((nk a c).getD 0 0).toNat=a:=by simp
   have e3:((nk a c).getD 1 0).toNat=c:=by simp
   simp only[e2,e3];lia
  ·rw[bp,mh];lia
def Ak(hA:TX A)(hB:TX B):TX (lw A B):=(u7 B hB.keys (λ_ _=>0) A [] .nil hA.keys).1
def E1(hA:TX A)(hB:TX B)(φ:Nat->Nat->Int):ds (lw A B) φ=ds A (λi k=>ds B λa c=>φ (i+a)<|k+c):=by have:=(u7 B hB.keys φ A [] .nil hA.keys).2.1;rw[show ds [] φ=0 from rfl,jN]at this;exact this
def Ch{φ χ:Nat->Nat->Int}(kvs:fA)(h:∀i k,φ i k=χ i k):ds kvs φ=ds kvs χ:=by rw[show φ=χ from funext λi=>funext λk=>h i k]
def C5(R:Bd->cA)(h1:Sg X (R []) c false)(h2:∀ys a,Sg X (R<|ys++[a]) c<|decide<|a=[])(h3:∀ys a,Sf X (R<|ys++[a]) body<|.nx<|R ys):∀(n:Nat)(ys:Bd),ys.length=n->∃m,T3 X c body m (R ys) (.nx<|R<|fM ys):=by
 intro n;induction n with
 |zero=>intro ys e;rw[bx e];exact⟨0,.stop h1⟩
 |succ n ih=>
  intro ys e;rcases eG ys with z |⟨zs,a,z⟩;·rw[z]at e;cases e
  ·rw[eI]at z;subst z;by_cases ha:a=[];·obtain⟨m,q⟩:=ih zs (by simpa using e);refine⟨m+1,.step (Sg.eq (h2 zs a)<|ap ha) (h3 zs a) ?_⟩;rw[ha,kx];exact q
   ·refine⟨0,?_⟩;rw[ky zs ha];exact .stop<|Sg.eq (h2 zs a)<|ak ha
def G3(kvs:fA)(k:Nat):bh:=fX ((List.range 10).map λi=>(du kvs<|nk i k).getD 0)
def jR(ds:aQ)(d:D):Prop:=∃kvs:fA,ds=[.So kvs]/\d=bo (nz kvs)
def sx:∀ds d,jR ds d->ds.length=1:=by rintro _ _ ⟨a,rfl,_⟩;rfl
def gn(ds:aQ)(kvs:fA):Prop:=∃A B:fA,ds=[.So A,.So B]/\TX A/\TX B/\A.length<=1000/\B.length<=1000/\VB (2 ^ 999) A/\VB (2 ^ 999) B/\kvs=lw A B
def tR:∀ds d,gn ds d->ds.length=2:=by rintro _ _ ⟨a,b,rfl,_⟩;rfl
def uU(h:DefX P w K mg base k gY (ai gV) X)(Sw:mg "range"=none)(Tz:mg "tuple"=none)(Sm:mg "len"=none)(c1:Callee X "_law_trim" pA):Go X gY gV jR:=by
 rintro ds d ⟨kvs,rfl,rfl⟩;have t:=h.at';haveI:=h.S5;have b1:=h.bt Sw;have b2:=h.bt Tz;have b3:=h.bt Sm;show Sf X [.val<|.So kvs,.un,.un] _ _;refine au (iH t 1<|bE ah) ?_;refine au (ρ':=[.val<|.So kvs,.own<|((List.range 10).map<|G3 kvs).map cG,.un]) (ik t (fz t b1 af (by decide)<|by decide)<|SJ.SY (λi=>[.val<|.So kvs,.own<|((List.range i).map<|G3 kvs).map cG,.un]) (λi d hi=>?_) rfl ?_) ?_
 ·obtain⟨ZJ,rfl⟩:=il hi;refine⟨_,bv t 2,Sf.weak (aw<|mz t 1 rfl (d:=cG<|G3 kvs i) (aG t c1 (ac (d:=eU ((List.range 10).map λj=>(du kvs<|nk j i).getD 0)) (Se.eq (Ss.SF (ka (rs:=(List.range 10).map λj=>D.int<|(du kvs<|nk j i).getD 0) t (gY++[("_law_i":Str)]) (IV<|by decide) (fz t b1 af (by decide)<|by decide) (by decide) λX' cx=>?_))<|by show D.lst _=D.lst _;rw[cj];rfl) ah) ⟨_,rfl,by simp,rfl⟩) ?_) ?_⟩;·exact Tf.gen (λ(j:Nat)=>D.int<|0+(j:Int)) _ (λ(j:Nat)=>[.val<|.So kvs,.own<|((List.range i).map<|G3 kvs).map cG,.val<|.int (i:Int),.val<|.int (j:Int)]) _ _ (λx hx=>by rw[jN];exact df cx.at' 3) (λx hx y hy=>by rw[jN];exact df cx.at' 3) λx hx=>vf (k:=nk x i) (n0:=0) cx.at' (Se.dr<|aa cx.at' 0 rfl)<|ac (aF<|ac (aa cx.at' 3 rfl)<|ac (aa cx.at' 2 rfl) ah)<|ac af ah
  ·rw[aj,aj,i8];exact vL<|by simp at ZJ;lia
  ·rw[KT,aN,aN];exact .keep<|.keep<|.forget .nil
 ·rfl
 refine au (fE t<|C5 (λys=>[.val<|.So kvs,.own<|ys.map cG,.un]) ?_ (λys a=>?_) (λys a=>?_) _ ((List.range 10).map<|G3 kvs) rfl)<|aw<|bg<|mF t b2<|hV t 1 rfl;·exact Ui.toT<|nj<|qW t (Vd.p<|hV t 1 rfl) (Se.p<|Ss.SF<|bE ah) (gZ []) (gZ [])<|by have:=AK [] [];exact aV not this
 ·refine Ui.toT<|ly (qW t (Vd.p<|hV t 1 rfl) (Se.p<|Ss.SF<|bE ah) ((Kg<|ys++[a]).sh<|by decide) (gZ []) ?_)<|pQ<|hW t (Se.p (d:=cG a)<|aY (hV t 1 rfl) (jj (eC t b3<|hV t 1 rfl) af) ?_) (Se.p (d:=cG [])<|aF ah) (c7 _) (c7 _)<|nv _ _;·show(!(PyData.list<|Sq<|(ys++[a]).map cG).eqv (.list<|Sq []))=true;rw[BE];cases ys with|nil=>simp[Sq,PyData.eqv,PyData.eqvAll]|cons r ys=>simp[Sq,PyData.eqv,PyData.eqvAll]
  ·rw[aj,Bj (g:=cG) (n:=ys.length) (by simp) (by simp)<|by simp];simp
 ·refine Sf.eq (aw<|K9 t 1 rfl<|by simp) ?_;rw[aN];have e:(ys.map cG++[a].map cG).dropLast=ys.map cG:=by simp
  rw[e];rfl
def uS(h:DefX P w K mg base k TJ (ai iJ) X):∀ds d,gn ds d->uB X (ds.map Sl.val++List.replicate (TJ.length-ds.length) Sl.un) (aD iJ) d:=by
 rintro ds d ⟨A,B,rfl,hA,hB,lA,lB,vA,vB,rfl⟩;have t:=h.at';haveI:=h.S5;show uB X [.val<|.So A,.val<|.So B,.un,.un,.un,.un,.un] _ _;refine sG (C9 t 2 Ii) ?_;refine sG (ρ':=[.val<|.So A,.val<|.So B,.TQ<|lw A B,.un,.un,.un,.un]) (ik t (AL<|aa t 0)<|SJ.SY (λi=>[.val<|.So A,.val<|.So B,.TQ<|(A.take i).foldl (λacc p=>jh p acc B) [],.un,.un,.un,.un]) (λi d hi=>?_) rfl ?_)<|EW t 2 rfl
 ·rw[List.getElem?_map]at hi;cases hp:A[i]? with
  |none=>rw[hp]at hi;cases hi
  |some p=>
  rw[hp]at hi;cases hi;obtain⟨key,v⟩:=p;have hm:(key,v)∈A:=List.mem_of_getElem? hp;obtain⟨a,c,e⟩:=hA.keys _ hm;have e':key=nk a c:=e;subst e';have hv:=mo hA.nd hm;have zKE:i<A.length:=(List.getElem?_eq_some_iff.mp hp).1;obtain⟨f1,_,f3⟩:=u7 B hB.keys (λ_ _=>0) (A.take i) [] .nil λp hp=>hA.keys p<|cg hp;have f3':((A.take i).foldl (λacc p=>jh p acc B) []).length<=1000*1000:=by
   have h1:(A.take i).length<=1000:=by rw[cQ];lia
   have h2:=eV h1 lB;have h3:([]:fA).length=0:=rfl;lia
  have et:A.take (i+1)=A.take i++[(nk a c,v)]:=mr hp;refine⟨_,pS t 3 4,Sf.weak (ρ1:=[.val<|.So A,.val<|.So B,.TQ<|(A.take<|i+1).foldl (λacc p=>jh p acc B) [],.val<|.int a,.val<|.int c,.un,.un]) (aw<|ik t (AL<|aa t 1)<|SJ.SY (λj=>[.val<|.So A,.val<|.So B,.TQ<|jh (nk a c,v) ((A.take i).foldl (λacc p=>jh p acc B) [])<|B.take j,.val<|.int a,.val<|.int c,.un,.un]) (λj d hj=>?_) rfl ?_)<|.keep<|.keep<|.keep<|.forget<|.forget<|.keep<|.keep .nil⟩
  ·rw[List.getElem?_map]at hj;cases hq:B[j]? with
   |none=>rw[hq]at hj;cases hj
   |some q=>
   rw[hq]at hj;cases hj;obtain⟨Zq,v2⟩:=q;have ZC:(Zq,v2)∈B:=List.mem_of_getElem? hq;obtain⟨a2,c2,e⟩:=hB.keys _ ZC;have e':Zq=nk a2 c2:=e;subst e';have hv2:=mo hB.nd ZC;have Yx:=vB _ ZC;have p1:2 ^ 999<2 ^ 1000:=Nat.pow_lt_pow_right (by decide) (by decide);have ha3:v.natAbs<2 ^ 1000:=bH (vA _ hm) p1;have hb3:v2.natAbs<2 ^ 1000:=bH Yx p1;have et2:B.take (j+1)=B.take j++[(nk a2 c2,v2)]:=mr hq;obtain⟨_,_,g3⟩:=u8 a c v (λ_ _=>0) (B.take j) _ f1 λp hp=>hB.keys p<|cg hp;have g4:(B.take j).length<=1000:=by rw[cQ];lia
   refine⟨_,pS t 5 6,Sf.weak (aw<|la t (bK (vf (k:=ud (nk a c)<|nk a2 c2) (n0:=0) t (Dy t 2 rfl)<|ac (aF<|ac (bK (aa t 3)<|aa t 5)<|ac (bK (aa t 4)<|aa t 6) ah)<|ac af ah)<|gj (AH (k:=nk a c) t (Se.dr<|aa t 0) (aF<|ac (aa t 3)<|ac (aa t 4) ah) hv) (AH (k:=nk a2 c2) t (Se.dr<|aa t 1) (aF<|ac (aa t 5)<|ac (aa t 6) ah) hv2)<|mD (k:=1000) (by decide) ha3 hb3)<|AM (k:=ud (nk a c)<|nk a2 c2) t 2 rfl (aF<|ac (bK (aa t 3)<|aa t 5)<|ac (bK (aa t 4)<|aa t 6) ah)<|by rw[y8];lia) ?_⟩;rw[et2,show jh (nk a c,v) ((A.take i).foldl (λacc p=>jh p acc B) []) (B.take j++[(nk a2 c2,v2)])=_ from sZ];exact .keep<|.keep<|.keep<|.keep<|.keep<|.forget<|.forget .nil
  ·rw[aj,bW,et,sZ];rfl
 ·rw[aj,bW];rfl
end My
namespace My
open PySem L2 L2.EV PyProof.Rows
variable {K:ce}
def VN:Str:="0123456789"
def xk(w:bZ):Prop:=w≠[]/\(∀c∈w,48<=c/\c<=57)/\w.length<=12/\(w.head?=some 48->w=[48])
def TR(w:bZ):Prop:=xk w\/w=[120]\/w=[121]
def Ni:∀c:Nat,48<=c->c<=57->(!(Builtin.Str.occurrences VN (S [c]) 0 VN.length 1).isEmpty)=true:=λc h1 h2=>by
 have:∀c:Nat,c<58->48<=c->(!(Builtin.Str.occurrences VN (S [c]) 0 VN.length 1).isEmpty)=true:=by decide
 exact this c (by lia) h1
def NG:∀c:Nat,48<=c->c<=57->al c=true:=λc h1 h2=>by
 have:∀c:Nat,c<58->48<=c->al c=true:=by decide
 exact this c (by lia) h1
def Q9:al 120=true:=by decide
def Q8:al 121=true:=by decide
def TR.lt(h:TR w):∀c∈w,c<128:=by
 rcases h with h |rfl |rfl;·intro c hc;have:=h.2.1 c hc;lia
 ·intro c hc;simp at hc;lia
 ·intro c hc;simp at hc;lia
def TR.al(h:TR w):∀c∈w,al c=true:=by
 rcases h with h |rfl |rfl;·intro c hc;have:=h.2.1 c hc;exact NG c this.1 this.2
 ·intro c hc;simp at hc;subst hc;exact Q9
 ·intro c hc;simp at hc;subst hc;exact Q8
def TR.len(h:TR w):w.length<=12:=by
 rcases h with h |rfl |rfl;·exact h.2.2.1
 ·simp
 ·simp
def Jq{n:Nat}(h:n<=20000):n<=sizeLine:=ao h<|fK rfl
def TN{cs:bZ}(h:cs.length<=20000):(S cs).length<=sizeLine:=by rw[cq];exact Jq h
def IS:List bZ:=[[120],[121],[110,111,116],[97,110,100],[111,114],[115,111,109,101],[97,108,108]]
def UA(w:bZ):Prop:=xk w\/w∈IS
def TR.v(h:TR w):UA w:=by
 rcases h with h |h |h;·exact .inl h
 ·exact .inr<|by rw[h];decide
 ·exact .inr<|by rw[h];decide
def Gw:∀w∈IS,(∀c∈w,c<128)/\w≠[]/\w.length<=12:=by decide
def Ob:∀w∈IS,∀c∈w,al c=true:=by decide
def UA.lt(h:UA w):∀c∈w,c<128:=by
 rcases h with h |h;·exact TR.lt<|.inl h
 ·exact(Gw w h).1
def UA.al(h:UA w):∀c∈w,al c=true:=by
 rcases h with h |h;·exact TR.al<|.inl h
 ·exact Ob w h
def UA.ne(h:UA w):w≠[]:=by
 rcases h with h |h;·exact h.1
 ·exact(Gw w h).2.1
def UA.len(h:UA w):w.length<=12:=by
 rcases h with h |h;·exact h.2.2.1
 ·exact(Gw w h).2.2
def DH(u:bZ):Bool:=match u with |[]=>false |c::_=>decide<|48<=c/\c<=57
def jL(ds:aQ)(d:D):Prop:=∃u:bZ,ds=[.str<|S u]/\(∀c∈u,c<128)/\u.length<=20000/\d=.bl (DH u)
def xK:∀ds d,jL ds d->ds.length=1:=by rintro _ _ ⟨a,rfl,_⟩;rfl
def wJ:∀c:Nat,c<128->(!(Builtin.Str.occurrences VN (S [c]) 0 VN.length 1).isEmpty)=decide (48<=c/\c<=57):=by decide
def ke(ds:aQ)(d:D):Prop:=∃pre w post:bZ,ds=[.str<|S<|pre++w++post,.int pre.length]/\(∀c∈w,al c=true)/\(∀c,post.head?=some c->al c=false)/\(pre++w++post).length<=20000/\d=.int ((pre.length:Int)+(w.length:Int))
def wu:∀ds d,ke ds d->ds.length=2:=by rintro _ _ ⟨a,b,c,rfl,_⟩;rfl
def ic(ds:aQ)(d:D):Prop:=∃w:bZ,ds=[.str<|S w]/\UA w/\d=.Sy
def oJ:∀ds d,ic ds d->ds.length=1:=by rintro _ _ ⟨a,rfl,_⟩;rfl
def DY:PyData:=.tuple [.str "x",.str "y",.str "not",.str "and",.str "or",.str "some",.str "all"]
def lN{ρ:cA}{v:Int}[Vh X](t:At X N sc)(i:Nat)(hr:ρ[i]?=some (.val<|.int n))(h:Se X ρ e (.int m))(hv:v=n+m)(hi:N[i]?=some x:=by rfl)(hx:nJ sc x=true:=by rfl):SQ X ρ (.AugAssign (.Name x pos') .Add e pos) (.nx<|ρ.set i<|.val<|.int v):=by subst hv;exact GT t i hr h hi hx
def CA(h:DefX P w K mg base k pb (ai k9) X)(gF:∃tk,mg "FIGURES"=some (.str VN tk)):Go X pb k9 jL:=by
 rintro ds r ⟨u,rfl,hu,hl,rfl⟩;have t:=h.at';have XF:∃tk,X.mg "FIGURES"=some (.str VN tk):=by rw[h.Up];exact gF
 have e0:("":Str)=S []:=by decide
 show Sf X [.val<|.str<|S u] _ _;cases u with
 |nil=>exact aw<|bg<|Se.eq (vh (u:=false) (v:=false) (Dx (r:=false) t (aa t 0).p Sd.p (fV<|dA hu) (fV<|by decide)<|by rw[e0];decide) λz=>nomatch z) rfl
 |cons c cs=>
  have hq:(!(S (c::cs)==("":Str)))=true:=by
   have hn:S (c::cs)≠S []:=λe=>by have:=fP e;cases this
   rw[e0];simpa using hn
  exact aw<|bg<|Se.eq (vh (Dx (r:=true) t (aa t 0).p Sd.p (fV<|dA hu) (fV<|by decide) hq) λ_=>AF (c9 (c:=c) (aa t 0) af (TN hl)<|by rw[eD];exact dJ (j:=0) rfl) (oP t XF)<|wJ c<|hu c<|by simp)<|by rw[CT];rfl
def Bc(h:DefX P w K mg base k nG (ai j4) X)(Sm:mg "len"=none):Go X nG j4 ke:=by
 rintro ds r ⟨pre,u,post,rfl,hu,hp,hz,rfl⟩;have t:=h.at';haveI:=h.S5;have b1:=h.bt Sm;show Sf X [.val<|.str<|S<|pre++u++post,.val<|.int pre.length,.un] _ _;refine au (aX t 2<|aa t 1) ?_;refine FL t (λi:Nat=>[.val<|.str<|S<|pre++u++post,.val<|.int pre.length,.val<|.int<|(pre.length:Int)+(i:Int)]) (λi=>i<=u.length) (λi=>i=u.length) (λi=>u.length-i) 0 (bR _) (λi hi=>?_) λi hi=>?_
 ·by_cases e:i<u.length
  ·obtain⟨u1,c,u2,rfl,rfl⟩:∃u1 c u2,u=u1++c::u2/\i=u1.length:=⟨u.take i,u[i],u.drop<|i+1,by simp,by simp;lia⟩;refine .inr ⟨?_,.inr ⟨u1.length+1,?_,by simp,by simp;lia⟩⟩
   ·refine Sg.eq (eQ (fZ (aa t 2)<|dB t b1 (aa t 0)<|TN hz) λ_=>jJ<|jk<|c9 (c:=c) (aa t 0) (aa t 2) (TN hz) ?_) ?_;·have:=q9 (pre:=pre++u1) (post:=u2++post) (c:=c);simpa using this
    ·rw[cq,show(⟨#[c]⟩:Str)=S [c]from rfl,Gb,hu c<|by simp,CU,bj];simp;lia
   ·exact aw<|lN t 2 rfl af<|by simp;lia
  ·have hi':i=u.length:=by lia
   subst hi';refine .inl ⟨?_,rfl⟩;cases post with
   |nil=>exact Sg.eq (eQ (v:=true) (fZ (aa t 2)<|dB t b1 (aa t 0)<|TN hz) λz=>by rw[cq,bj]at z;simp at z)<|by rw[cq,CU,aK];simp
   |cons c post=>
    refine Sg.eq (eQ (fZ (aa t 2)<|dB t b1 (aa t 0)<|TN hz) λ_=>jJ<|jk<|c9 (c:=c) (aa t 0) (aa t 2) (TN hz) ?_) ?_;·have:=q9 (pre:=pre++u) (post:=post) (c:=c);simpa using this
    ·rw[show(⟨#[c]⟩:Str)=S [c]from rfl,Gb,hp c rfl,Bw]
 ·subst hi;exact aw<|bg<|aa t 2
def Jf(h:xk w):([PyData.str "x",.str "y",.str "not",.str "and",.str "or",.str "some",.str "all"].any λy=>PyData.eqv y<|.str<|S w)=false:=by
 obtain⟨c,cs,rfl⟩:∃c cs,w=c::cs:=by cases w with|nil=>exact absurd rfl h.1|cons c cs=>exact⟨c,cs,rfl⟩
 have hc:=h.2.1 c (by simp);have ne:∀(d:Nat)(ds:bZ),57<d->(S (d::ds)==S (c::cs))=false:=λd ds hd=>by rw[br];intro e;have:=fP e;cases this;lia
 show((("x":Str)==S (c::cs))||((("y":Str)==S (c::cs))||((("not":Str)==S (c::cs))||((("and":Str)==S (c::cs))||((("or":Str)==S (c::cs))||((("some":Str)==S (c::cs))||((("all":Str)==S (c::cs))||false)))))))=false;rw[show("x":Str)=S [120]by decide,show("y":Str)=S [121]by decide,show("not":Str)=S [110,111,116]by decide,show("and":Str)=S [97,110,100]by decide,show("or":Str)=S [111,114]by decide,show("some":Str)=S [115,111,109,101]by decide,show("all":Str)=S [97,108,108]by decide];rw[ne _ _<|by lia,ne _ _<|by lia,ne _ _<|by lia,ne _ _<|by lia,ne _ _<|by lia,ne _ _<|by lia,ne _ _<|by lia];rfl
def Oa:∀u∈IS,([PyData.str "x",.str "y",.str "not",.str "and",.str "or",.str "some",.str "all"].any λy=>PyData.eqv y<|.str<|S u)=true:=by decide
def q0(h:DefX P w K mg base k Sv (ai c8) X)(Vk:mg "all"=none)(Sm:mg "len"=none)(gW:Rt mg K "WORDS" DY)(gF:∃tk,mg "FIGURES"=some (.str VN tk)):∀ds d,ic ds d->Sf X (ds.map Sl.val++List.replicate (Sv.length-ds.length) Sl.un) (aD c8) (.rt d)\/(d=.Sy/\∃ρ',Sf X (ds.map Sl.val++List.replicate (Sv.length-ds.length) Sl.un) (aD c8)<|.nx ρ'):=by
 rintro ds r ⟨u,rfl,hu,rfl⟩;have t:=h.at';obtain⟨l,gm,gk⟩:=gW;have X3:X.mg "WORDS"=some (.ref l):=by rw[h.Up];exact gm
 have XE:GP X.K (.ref l) DY:=by rw[h.k'];exact gk
 have XF:∃tk,X.mg "FIGURES"=some (.str VN tk):=by rw[h.Up];exact gF
 have b1:=h.bt Vk;have b2:=h.bt Sm;have hz:(S u).length<=sizeLine:=TN<|ao hu.len (by decide);have cw:PyData.canLayAll0 [PyData.str "x",.str "y",.str "not",.str "and",.str "or",.str "some",.str "all"]=true:=by decide
 have ok:=dA hu.lt;have lt:=hu.lt;rcases hu with hn |hx
 ·refine .inr ⟨rfl,[.val<|.str<|S u],?_⟩;show Sf X [.val<|.str<|S u] _ _;refine au (cB (wP t (aa t 0).p (oQ t X3 XE) (dN ok) (dk _) cw<|Jf hn) bQ)<|aw<|cB ?_ bQ;obtain⟨c,cs,rfl⟩:∃c cs,u=c::cs:=by cases u with|nil=>exact absurd rfl hn.1|cons c cs=>exact⟨c,cs,rfl⟩
  refine Sg.eq (Dz (u:=false) (v:=false) (w:=false) (Sg.eq (nu<|jJ<|AI (bs:=(S<|c::cs).cps.toList.map λ_=>true) t b1<|Ss.toQ<|Ss.eq (ka (rs:=(S<|c::cs).cps.toList.map λ_=>D.bl true) t ["run","sign"] (IV<|by decide) (DC (aa t 0)<|IH lt) (by unfold IT;rw[aj,eD];exact vL<|by have:=hn.2.2.1;lia) λX' cx=>?_) ?_) ?_) (λ_=>Sg.eq (fg (dB t b2 (aa t 0) hz) af) ?_) λ_ _=>?_) rfl;·exact Tf.gen (λc=>D.str ⟨#[c]⟩) _ (λx=>[.val<|.str<|S<|c::cs,.val<|.str ⟨#[x]⟩]) _ _ (λx hx=>df cx.at' 1) (λx hx y hy=>df cx.at' 1) λx hx=>AF (aa cx.at' 1 rfl) (oP cx.at'<|by rw[cx.Up];exact XF)<|by rw[eD]at hx;exact Ni x (hn.2.1 x hx).1 (hn.2.1 x hx).2
  ·rw[cj];rfl
  ·simp
  ·rw[cq,aK];have:=hn.2.2.1;lia
  ·refine Sg.eq (eQ (cf t (c9 (c:=c) (aa t 0) af hz<|by rw[eD];exact dJ (j:=0) rfl) Sd (dA (cs:=[c]) λx hx=>lt x<|by simp at hx;simp[hx])) λz=>qW t (aa t 0).p Sd.p (fV ok) (fV<|by decide) (r:=false) ?_) (by simp);have z0:c=48:=by rw[bj,show("0":Str)=S [48]by decide]at z;have:=fP (a:=[c]) z;cases this;rfl
   subst z0;have:=hn.2.2.2 rfl;rw[this];decide
 ·refine .inl ?_;show Sf X [.val<|.str<|S u] _ _;exact fm<|dD (wP t (aa t 0).p (oQ t X3 XE) (dN ok) (dk _) cw<|Oa u hx)<|aw Mj
def Rf(c:Nat)(post:bZ):Prop:=(c≠60/\c≠62/\c≠33)\/((c=60\/c=62)/\post.head?≠some 61)
def ib(ds:aQ)(d:D):Prop:=∃pre post:bZ,(∃u,ds=[.str<|S<|pre++u++post,.int pre.length]/\UA u/\(∀c,post.head?=some c->al c=false)/\(pre++u++post).length<=20000/\d=.str (S u))\/(∃c,ds=[.str<|S<|pre++c::post,.int pre.length]/\al c=false/\(∀x∈c::post,x<128)/\Rf c post/\(pre++c::post).length<=20000/\d=.str (S [c]))\/∃c,ds=[.str<|S<|pre++c::61::post,.int pre.length]/\(c=60\/c=62\/c=33)/\(pre++c::61::post).length<=20000/\d=.str (S [c,61])
def As:∀ds d,ib ds d->ds.length=2:=by rintro _ _ ⟨a,b,⟨c,rfl,_⟩ |⟨c,rfl,_⟩ |⟨c,rfl,_⟩⟩<;>rfl
def NQ:PyData:=.tuple [.str "<=",.str ">=",.str "!="]
def NB{c:Nat}(h1:c≠60)(h2:c≠62)(h3:c≠33):([PyData.str "<=",.str ">=",.str "!="].any λy=>PyData.eqv y<|.str<|S<|c::cs)=false:=by
 have ne:∀(d:Nat)(ds:bZ),d≠c->(S (d::ds)==S (c::cs))=false:=λd ds hd=>by rw[br];intro e;have:=fP e;cases this;exact hd rfl
 show((("<=":Str)==S (c::cs))||(((">=":Str)==S (c::cs))||((("!=":Str)==S (c::cs))||false)))=false;rw[show("<=":Str)=S [60,61]by decide,show(">=":Str)=S [62,61]by decide,show("!=":Str)=S [33,61]by decide];rw[ne _ _<|cV h1,ne _ _<|cV h2,ne _ _<|cV h3];rfl
def NA(h:Rf c post):([PyData.str "<=",.str ">=",.str "!="].any λy=>PyData.eqv y<|.str<|S<|c::post.take 1)=false:=by
 rcases h with⟨h1,h2,h3⟩ |⟨h1,h2⟩;·exact NB h1 h2 h3
 ·have key:∀ds:bZ,ds≠[61]->c=60\/c=62->([PyData.str "<=",.str ">=",.str "!="].any λy=>PyData.eqv y<|.str<|S<|c::ds)=false:=λds hd hc=>by
   have ne:∀d:Nat,(S [d,61]==S (c::ds))=false:=λd=>by rw[br];intro e;have:=fP e;cases this;exact hd rfl
   show((("<=":Str)==S (c::ds))||(((">=":Str)==S (c::ds))||((("!=":Str)==S (c::ds))||false)))=false;rw[show("<=":Str)=S [60,61]by decide,show(">=":Str)=S [62,61]by decide,show("!=":Str)=S [33,61]by decide,ne,ne,ne];rfl
  refine key _ (λe=>h2 ?_) h1;cases post with
  |nil=>cases e
  |cons a b=>simp at e;rw[e];rfl
def NH:∀c:Nat,c=60\/c=62\/c=33->al c=false:=by intro c h;rcases h with rfl |rfl |rfl<;>decide
def DR(h:DefX P w K mg base k TH (ai jf) X)(c1:Callee X "refuse_wrong_run" ic)(c2:Callee X "end_of_run" ke)(gD:Rt mg K "DOUBLE_SIGNS" NQ):Go X TH jf ib:=by
 rintro ds r ⟨pre,post,⟨u,rfl,hu,hp,hz,rfl⟩ |⟨c,rfl,hc,ha,hsg,hz,rfl⟩ |⟨c,rfl,hc3,hz,rfl⟩⟩
 ·have t:=h.at';haveI:=h.S5;show Sf X [.val<|.str<|S<|pre++u++post,.val<|.int pre.length,.un] _ _;obtain⟨c,cs,rfl⟩:∃c cs,u=c::cs:=by cases u with|nil=>exact absurd rfl hu.ne|cons c cs=>exact⟨c,cs,rfl⟩
  refine fm<|dD (Sg.eq (jJ<|jk<|c9 (c:=c) (aa t 0) (aa t 1) (TN hz) ?_)<|by rw[show(⟨#[c]⟩:Str)=S [c]from rfl,Gb];exact hu.al c<|by simp) ?_;·have:=q9 (pre:=pre) (post:=cs++post) (c:=c);simpa using this
  ·refine au (aX t 2<|Se.eq (nt (aa t 0) (aa t 1) (aG t c2 (ac (aa t 0)<|ac (aa t 1) ah) ⟨pre,c::cs,post,rfl,hu.al,hp,hz,rfl⟩)<|TN hz)<|by rw[LL]) ?_;refine au (Ae<|aG t c1 (ac (aa t 2) ah) ⟨_,rfl,hu,rfl⟩)<|aw<|bg<|aa t 2
 ·have t:=h.at';haveI:=h.S5;obtain⟨l,gm,gk⟩:=gD;have X3:X.mg "DOUBLE_SIGNS"=some (.ref l):=by rw[h.Up];exact gm
  have XE:GP X.K (.ref l) NQ:=by rw[h.k'];exact gk
  show Sf X [.val<|.str<|S<|pre++c::post,.val<|.int pre.length,.un] _ _;refine au (cB (Sg.eq (jJ<|jk<|c9 (c:=c) (aa t 0) (aa t 1) (TN hz) q9)<|by rw[show(⟨#[c]⟩:Str)=S [c]from rfl,Gb];exact hc) bQ)<|aw<|bg<|wM (wP t (Se.eq (nt (aa t 0) (aa t 1) (bK (aa t 1) af)<|TN hz)<|by rw[DZ]).p (oQ t X3 XE) (dN<|dA ?_) (dk _) (by decide)<|NA hsg)<|c9 (aa t 0) (aa t 1) (TN hz) q9;intro x hx;refine ha x ?_;rcases List.mem_cons.mp hx with rfl |hx;·simp
  ·exact aM _<|cg hx
 ·have t:=h.at';haveI:=h.S5;obtain⟨l,gm,gk⟩:=gD;have X3:X.mg "DOUBLE_SIGNS"=some (.ref l):=by rw[h.Up];exact gm
  have XE:GP X.K (.ref l) NQ:=by rw[h.k'];exact gk
  have hc:=NH c hc3;have ok:PyData.strOk (S [c,61])=true:=dA (by intro x hx;simp at hx;lia);have ZJ:([PyData.str "<=",.str ">=",.str "!="].any λy=>PyData.eqv y<|.str<|S [c,61])=true:=by rcases hc3 with rfl |rfl |rfl<;>decide
  show Sf X [.val<|.str<|S<|pre++c::61::post,.val<|.int pre.length,.un] _ _;exact au (cB (Sg.eq (jJ<|jk<|c9 (c:=c) (aa t 0) (aa t 1) (TN hz) q9)<|by rw[show(⟨#[c]⟩:Str)=S [c]from rfl,Gb];exact hc) bQ)<|aw<|bg<|wL (wP t (Se.eq (d':=.str<|S [c,61]) (nt (aa t 0) (aa t 1) (bK (aa t 1) af)<|TN hz)<|by rw[DZ];rfl).p (oQ t X3 XE) (dN ok) (dk _) (by decide) ZJ)<|Se.eq (nt (aa t 0) (aa t 1) (bK (aa t 1) af)<|TN hz)<|by rw[DZ];rfl
def az(ts:List bZ):aQ:=ts.map λu=>D.str<|S u
def LJ:al 32=false:=by decide
def iV(o c:bZ):List bZ->Int|[]=>0|u::ts=>iV o c ts+(b2i (decide<|S u=S o)-b2i (decide<|S u=S c))
def pU(o c u:bZ):∀ts,iV o c (ts++[u])=iV o c ts+(b2i (decide<|S u=S o)-b2i (decide<|S u=S c))|[]=>by simp[iV]|v::ts=>by show iV o c (ts++[u])+_=iV o c ts+_+_;rw[pU o c u ts];lia
def jE(ds:aQ)(d:D):Prop:=∃(ts:List bZ)(o c:bZ),ds=[.lst<|az ts,.str<|S o,.str<|S c]/\(∀u∈ts,∀x∈u,x<128)/\(∀x∈o,x<128)/\(∀x∈c,x<128)/\(∀i,i<=ts.length->iV o c (ts.take i)<=20)/\d=.Sy
def uJ:∀ds d,jE ds d->ds.length=3:=by rintro _ _ ⟨a,b,c,rfl,_⟩;rfl
def x9(h:DefX P w K mg base k SM (ai fj) X)(gM:∃tk,mg "MOST_OPEN"=some (.int 20 tk)):∀ds d,jE ds d->Sf X (ds.map Sl.val++List.replicate (SM.length-ds.length) Sl.un) (aD fj) (.rt d)\/(d=.Sy/\∃ρ',Sf X (ds.map Sl.val++List.replicate (SM.length-ds.length) Sl.un) (aD fj)<|.nx ρ'):=by
 rintro ds r ⟨ts,o,c,rfl,ha,ho,hc,hd,rfl⟩;have t:=h.at';haveI:=h.S5;have Wl:∃tk,X.mg "MOST_OPEN"=some (.int 20 tk):=by rw[h.Up];exact gM
 refine .inr ⟨rfl,[.val<|.lst<|az ts,.val<|.str<|S o,.val<|.str<|S c,.val<|.int<|iV o c ts,.un],?_⟩;show Sf X [.val<|.lst<|az ts,.val<|.str<|S o,.val<|.str<|S c,.un,.un] _ _;refine au (aX t 3 af)<|aw<|ik t (qZ<|aa t 0)<|SJ.SY (λi=>[.val<|.lst<|az ts,.val<|.str<|S o,.val<|.str<|S c,.val<|.int<|iV o c<|ts.take i,.un]) (λj d e=>?_) rfl ?_
 ·unfold az at e;rw[List.getElem?_map]at e;cases e2:ts[j]? with
  |none=>rw[e2]at e;cases e
  |some u=>
   rw[e2]at e;cases e;have hj:=(List.getElem?_eq_some_iff.mp e2).1;have hu:∀x∈u,x<128:=ha u<|List.mem_of_getElem? e2;have et:iV o c (ts.take<|j+1)=iV o c (ts.take j)+(b2i (decide<|S u=S o)-b2i (decide<|S u=S c)):=by rw[jr,e2];exact pU o c u _
   refine⟨_,bv t 4,Sf.weak (au (lN t 3 (v:=iV o c<|ts.take<|j+1) rfl (AC (oR t (aa t 4) (aa t 1) (dA hu)<|dA ho)<|oR t (aa t 4) (aa t 2) (dA hu)<|dA hc) et)<|aw<|cB (Sg.eq (fg (aa t 3)<|iQ t Wl) ?_) bQ)<|.keep<|.keep<|.keep<|.keep<|.forget .nil⟩;have:=hd (j+1) (by lia);rw[aK];lia
 ·show _=_;unfold az;rw[aj,bW]
def HD(ts:cH):Str:=ts.headD ""
def cM(toks:cH)(ds:aQ)(s:Int×aQ)(d:D)(s':Int×aQ):Prop:=∃n:Nat,ds=[]/\s.1=n/\d=.str (HD<|toks.drop n)/\s'=s
def wt:∀ts ds s d s',cM ts ds s d s'->ds.length+1=1:=by rintro _ _ _ _ _ ⟨a,rfl,_⟩;rfl
def cn(toks:cH)(ds:aQ)(s:Int×aQ)(d:D)(s':Int×aQ):Prop:=∃n:Nat,ds=[]/\s.1=n/\d=.str (HD<|toks.drop n)/\s'=((n:Int)+1,s.2)
def wq:∀ts ds s d s',cn ts ds s d s'->ds.length+1=1:=by rintro _ _ _ _ _ ⟨a,rfl,_⟩;rfl
def l6(toks:cH)(ds:aQ)(s:Int×aQ)(d:D)(s':Int×aQ):Prop:=∃n:Nat,ds=[]/\s.1=n/\toks.length<=n/\d=.Sy/\s'=s
def uI:∀ts ds s d s',l6 ts ds s d s'->ds.length+1=1:=by rintro _ _ _ _ _ ⟨a,rfl,_⟩;rfl
def sz{n:Nat}(h:n<10000):n<sizeLine:=ml h<|by decide
def xY(h:DefX P w K mg base k nF (ai j0) X)(Sm:mg "len"=none):Qd X nF j0 cM:=by
 rintro r ok ds ⟨i,xs⟩ d s' ⟨n,rfl,hn,rfl,rfl⟩;have t:=h.at';have b1:=h.bt Sm;have Ux:i=(n:Int):=hn;subst Ux;refine .inl ?_;show Tx (Sk r) X [.val<|.adr r.p] _ _ _ _;refine dU<|vq ?_;have hl:((r.toks.map D.str).length:Int)=(r.toks.length:Nat):=by rw[aj]
 by_cases e:n<r.toks.length
 ·refine Nl (SE.eq (D8 (sg t ok 0 rfl)<|AB t b1<|se t ok 0 rfl) ?_)<|Sz.eq (Nk (d:=.str r.toks[n]) (se t ok 0 rfl) (sg t ok 0 rfl)<|dJ<|by rw[List.getElem?_map,List.getElem?_eq_getElem e];rfl) ?_;·rw[hl,bj];show(n:Int)<_;lia
  ·rw[jO e];rfl
 ·refine Nm (SE.eq (D8 (sg t ok 0 rfl)<|AB t b1<|se t ok 0 rfl) ?_)<|Sz.eq (Se.z Sd) ?_;·rw[hl,aK];show¬((n:Int)<_);lia
  ·rw[mn<|by lia];rfl
def xW(h:DefX P w K mg base k nD (ai jY) X)(c1:Si X "next_token" cM):Qd X nD jY cn:=by rintro r ok ds ⟨i,xs⟩ d s' ⟨n,rfl,hn,rfl,rfl⟩;have t:=h.at';haveI:=h.S5;have Ux:i=(n:Int):=hn;subst Ux;refine .inl ?_;show Tx (Sk r) X [.val<|.adr r.p,.un] _ _ _ _;exact cy (lJ t 1<|dC t ok c1 (bS (Se.z<|aa t 0)<|S3.z ah) ⟨n,rfl,rfl,rfl,rfl⟩)<|cy (JA t ok 0 rfl af)<|dU<|vq<|Se.z<|aa t 1
def wY(h:DefX P w K mg base k S7 (ai fU) X)(Sm:mg "len"=none):Qd X S7 fU l6:=by rintro r ok ds ⟨i,xs⟩ d s' ⟨n,rfl,hn,hl,rfl,rfl⟩;have t:=h.at';have b1:=h.bt Sm;have Ux:i=(n:Int):=hn;subst Ux;refine .inr ⟨rfl,[.val<|.adr r.p],?_⟩;show Tx (Sk r) X [.val<|.adr r.p] _ _ _ _;refine dU<|tj (SE.eq (D8 (sg t ok 0 rfl)<|AB t b1<|se t ok 0 rfl) ?_) vt;rw[aj,aK];show¬((n:Int)<_);lia
abbrev TK:=List bZ
inductive Tr
 |leaf (u:bZ)
 |pow (t:Tr) (d:Nat)
 |neg (t:Tr)
 |mul (a b:Tr)
 |add (a b:Tr)
 |sub (a b:Tr)
def dP:Tr->TK
 |.leaf u=>[u]|.pow t d=>dP t++[[94,48+d]]
 |.neg t=>dP t++[[109,105,110,117,115]]|.mul a b=>dP a++(dP b++[[42]])
 |.add a b=>dP a++(dP b++[[43]])|.sub a b=>dP a++(dP b++[[45]])
def qO(u:bZ):Bool:=!u.isEmpty&&u.all (λc=>decide<|48<=c/\c<=57)&&decide (u.length<=12)&&(decide (u=[48])||decide (u.head?≠some 48))
def we(u:bZ):qO u=true↔xk u:=by
 unfold qO xk;simp only[dM,xB,bj,i9,nR,List.isEmpty_eq_false_iff];constructor
 ·rintro⟨⟨⟨a,b⟩,c⟩,d⟩;refine⟨a,b,c,λh=>?_⟩;rcases d with d |d;·exact d
  ·exact absurd h d
 ·rintro⟨a,b,c,d⟩;refine⟨⟨⟨a,b⟩,c⟩,?_⟩;by_cases h:u.head?=some 48;·exact .inl<|d h
  ·exact .inr h
def xh(u:bZ):Bool:=qO u||(decide (u=[120])||decide (u=[121]))
def sT(u:bZ):xh u=true↔TR u:=by unfold xh TR;rw[xB,xB,we,bj,bj]
def cz(T:TK)(i:Nat):bZ:=T.getD i []
def xT:List bZ:=[[48],[49],[50],[51],[52],[53],[54],[55],[56],[57]]
def Nj(u:bZ):Bool:=decide<|u∈xT
def dg(u:bZ):Nat:=u.headD 0-48
def AA:∀u∈xT,u=[48+dg u]/\dg u<=9:=by decide
abbrev PR:=Nat->Option Tr×Nat
def gQ(sum:PR)(T:TK)(a:Nat):Option Tr×Nat:=
 if xh (cz T a)then(some<|.leaf<|cz T a,a+1)
 else if cz T a=[40]then match sum (a+1)with
  |(some t,e)=>if cz T e=[41]then(some t,e+1)else(none,a)
  |(none,_)=>(none,a)
 else(none,a)
def tV(sum:PR)(T:TK)(a:Nat):Option Tr×Nat:=match gQ sum T a with
 |(some t,e)=>if cz T e=[94]then(if Nj (cz T<|e+1)then(some<|.pow t<|dg<|cz T<|e+1,e+2)else(none,a))else(some t,e)
 |(none,_)=>(none,a)
def lP(T:TK)(a:Nat):Nat:=((T.drop a).takeWhile λu=>decide<|u=[45]).length
def ng(m:Nat)(t:Tr):Tr:=if m%2=1 then .neg t else t
def kL(sum:PR)(T:TK)(a:Nat):Option Tr×Nat:=match tV sum T (a+lP T a)with
 |(some t,e)=>if 20<lP T a then(none,a+lP T a)else(some<|ng (lP T a) t,e)
 |(none,_)=>(none,a+lP T a)
def ni(sum:PR)(T:TK)(a0:Nat):Nat->Tr->Nat->Option Tr×Nat
 |0,t,e=>(some t,e)
 |f+1,t,e=>if cz T e=[42]then
   match kL sum T (e+1)with
   |(some m,e')=>ni sum T a0 f (.mul t m) e'
   |(none,_)=>(none,a0)
  else(some t,e)
def wH(sum:PR)(T:TK)(a:Nat):Option Tr×Nat:=match kL sum T a with|(some t,e)=>ni sum T a T.length t e|(none,e)=>(none,e)
def nh(sum:PR)(T:TK)(a0:Nat):Nat->Tr->Nat->Option Tr×Nat
 |0,t,e=>(some t,e)
 |f+1,t,e=>if cz T e=[43]\/cz T e=[45]then
   match wH sum T (e+1)with
   |(some m,e')=>nh sum T a0 f (if cz T e=[45]then .sub t m else .add t m) e'
   |(none,_)=>(none,a0)
  else(some t,e)
def HS(sum:PR)(T:TK)(a:Nat):Option Tr×Nat:=match wH sum T a with|(some t,e)=>nh sum T a T.length t e|(none,e)=>(none,e)
def g(T:TK):Nat->PR
 |0=>λa=>(none,a)
 |n+1=>HS (g T n) T
def PY(u:bZ):Prop:=xh u=true\/u∈[[40],[41],[42],[43],[45],[94]]
def dp(T:TK)(a:Nat):Int:=iV [40] [41]<|T.take a
structure U0(T:TK)(a:Nat)(t:Tr)(e:Nat):Prop where
 lt:a<e
 le:e<=T.length
 good:∀i,a<=i->i<e->PY (cz T i)
 VL:dp T e=dp T a
 Vs:(dP t).length<=2*(e-a)
def iP{i:Nat}(h:cz T i≠[]):i<T.length:=N2 λz=>h<|by unfold cz;rw[List.getD_eq_getElem?_getD,List.getElem?_eq_none<|by lia];rfl
def AN{T:TK}{i:Nat}(h:i<T.length):dp T (i+1)=dp T i+(b2i (decide<|S (cz T i)=S [40])-b2i (decide<|S (cz T i)=S [41])):=by
 unfold dp;have e:T.take (i+1)=T.take i++[cz T i]:=by unfold cz;rw[List.take_add_one,List.getElem?_eq_getElem h,List.getD_eq_getElem?_getD,List.getElem?_eq_getElem h];rfl
 rw[e,pU]
def gb{T:TK}{i:Nat}(h:i<T.length)(h1:cz T i≠[40])(h2:cz T i≠[41]):dp T (i+1)=dp T i:=by rw[AN h,ak λz=>h1<|fP z,ak λz=>h2<|fP z];show dp T i+(0-0)=_;lia
def sI{i:Nat}(h:cz T i=[40]):dp T (i+1)=dp T i+1:=by rw[AN<|iP<|by rw[h];simp,h,ap rfl,ak λz=>by have:=fP z;cases this];rfl
def E2{i:Nat}(h:cz T i=[41]):dp T (i+1)=dp T i-1:=by rw[AN<|iP<|by rw[h];simp,h,ap rfl,ak λz=>by have:=fP z;cases this];rfl
def DV{u:bZ}{c:Nat}(h:xh u=true)(hc:c<48):u≠[c]:=λe=>by
 rw[sT]at h;subst e;rcases h with h |h |h;·have:=h.2.1 c (by simp);lia
 ·cases h;lia
 ·cases h;lia
def KF:xh []=false:=by decide
def U0.one(h:xh (cz T a)=true):U0 T a (.leaf<|cz T a) (a+1):=by
 have hl:a<T.length:=iP λz=>by rw[z]at h;rw[KF]at h;cases h
 refine⟨by lia,hl,λi h1 h2=>?_,gb hl (DV h<|by decide)<|DV h<|by decide,?_⟩
 ·have:i=a:=by lia
  subst this;exact .inl h
 ·show 1<=2*(a+1-a);lia
section
variable {sum:PR}
def xj{a:Nat}{e:Nat}(hs:∀a t e,sum a=(some t,e)->U0 T a t e){t:Tr}(h:gQ sum T a=(some t,e)):U0 T a t e:=by
 unfold gQ at h;split at h;·rename_i z;injection h with h1 h2;injection h1 with h1;subst h1;subst h2;exact .one z
 ·split at h
  ·rename_i z;split at h
   ·rename_i t' e' Ym;split at h
    ·rename_i y;injection h with h1 h2;injection h1 with h1;subst h1;subst h2;have A:=hs _ _ _ Ym;have l1:=A.lt;refine⟨by lia,iP<|by rw[y];simp,λi h1 h2=>?_,?_,?_⟩
     ·by_cases q:i=a;·subst q;exact .inr<|by rw[z];simp
      ·by_cases q2:i=e';·subst q2;exact .inr<|by rw[y];simp
       ·exact A.good i (by lia)<|by lia
     ·rw[E2 y,A.VL,sI z];lia
     ·have:=A.Vs;lia
    ·cases h
   ·cases h
  ·cases h
def Fd{a:Nat}{e:Nat}(hs:∀a t e,sum a=(some t,e)->U0 T a t e){t:Tr}(h:tV sum T a=(some t,e)):U0 T a t e:=by
 unfold tV at h;split at h
 ·rename_i t' e' hA;have A:=xj hs hA;split at h
  ·rename_i y;split at h
   ·rename_i z;injection h with h1 h2;injection h1 with h1;subst h1;subst h2;have z':cz T (e'+1)∈xT:=cE z;have hz:xh (cz T<|e'+1)=true:=by
     have:∀u∈xT,xh u=true:=by decide
     exact this _ z'
    have F:=U0.one hz;have l1:=A.lt;refine⟨by lia,F.le,λi h1 h2=>?_,?_,?_⟩
    ·by_cases q:i<e';·exact A.good i h1 q
     ·by_cases q2:i=e';·subst q2;exact .inr<|by rw[y];simp
      ·have:i=e'+1:=by lia
       subst this;exact .inl hz
    ·rw[show e'+2=e'+1+1 from rfl,F.VL,gb (iP<|by rw[y];simp) (by rw[y];simp)<|by rw[y];simp,A.VL]
    ·have:=A.Vs;show(dP t'++[_]).length<=_;rw[aq];simp;lia
   ·cases h
  ·injection h with h1 h2;injection h1 with h1;subst h1;subst h2;exact A
 ·cases h
def wk(T:TK)(a:Nat):∀j,j<lP T a->cz T (a+j)=[45]:=by
 unfold lP;intro j hj;have e:=List.takeWhile_append_dropWhile (p:=λu=>decide<|u=[45]) (l:=T.drop a);generalize hA:(T.drop a).takeWhile (λu=>decide<|u=[45])=A at hj e;have hm:A[j]∈A:=jM hj;have hp:∀x∈A,x=[45]:=λx hx=>by
  rw[<-hA]at hx;have:∀(l:TK),∀x∈l.takeWhile (λu=>decide<|u=[45]),x=[45]:=λl=>by
   induction l with
   |nil=>intro x hx;exact nomatch hx
   |cons y l ih=>
    intro x hx;rw[Sc]at hx;split at hx
    ·rename_i q;rcases List.mem_cons.mp hx with rfl |hx;·exact cE q
     ·exact ih x hx
    ·exact nomatch hx
  exact this _ x hx
 unfold cz;rw[List.getD_eq_getElem?_getD,<-List.getElem?_drop,<-e,List.getElem?_append_left hj,List.getElem?_eq_getElem hj];exact hp _ hm
def Ar(T:TK)(a:Nat):cz T (a+lP T a)≠[45]:=by
 unfold lP cz;rw[List.getD_eq_getElem?_getD,<-List.getElem?_drop];generalize T.drop a=l;induction l with
 |nil=>simp
 |cons y l ih=>
  rw[Sc];split;·rw[bp,List.getElem?_cons_succ];exact ih
  ·rename_i q;simp at q;simpa using q
def wl(T:TK)(a:Nat):∀j,j<=lP T a->dp T (a+j)=dp T a|0,_=>rfl|j+1,h=>by have e:=wk T a j (by lia);rw[<-Nat.add_assoc,gb (iP<|by rw[e];simp) (by rw[e];simp)<|by rw[e];simp];exact wl T a j<|by lia
def kc{a:Nat}{e:Nat}(hs:∀a t e,sum a=(some t,e)->U0 T a t e){t:Tr}(h:kL sum T a=(some t,e)):U0 T a t e:=by
 unfold kL at h;split at h
 ·rename_i t' e' hA;have A:=Fd hs hA;split at h;·cases h
  ·injection h with h1 h2;injection h1 with h1;subst h1;subst h2;have l1:=A.lt;refine⟨by lia,A.le,λi h1 h2=>?_,by rw[A.VL,wl T a _<|ar _],?_⟩
   ·by_cases q:i<a+lP T a;·have:=wk T a (i-a) (by lia);rw[show a+(i-a)=i by lia]at this;exact .inr<|by rw[this];simp
    ·exact A.good i (by lia) h2
   ·have f:=A.Vs;unfold ng;split;·rename_i q;show(dP t'++[_]).length<=_;rw[aq];simp;lia
    ·lia
 ·cases h
def vo{a:Nat}(hs:∀a t e,sum a=(some t,e)->U0 T a t e):∀(f:Nat)(t0:Tr)(e0:Nat)(t:Tr)(e:Nat),U0 T a t0 e0->ni sum T a0 f t0 e0=(some t,e)->U0 T a t e
 |0,t0,e0,t,e,A,h=>by injection h with h1 h2;injection h1 with h1;subst h1;subst h2;exact A
 |f+1,t0,e0,t,e,A,h=>by
  unfold ni at h;split at h
  ·rename_i y;split at h
   ·rename_i m e' hF;have F:=kc hs hF;have l1:=A.lt;have l2:=F.lt;refine vo hs f _ _ t e ⟨by lia,F.le,λi h1 h2=>?_,?_,?_⟩ h
    ·by_cases q:i<e0;·exact A.good i h1 q
     ·by_cases q2:i=e0;·subst q2;exact .inr<|by rw[y];simp
      ·exact F.good i (by lia) h2
    ·rw[F.VL,gb (iP<|by rw[y];simp) (by rw[y];simp)<|by rw[y];simp,A.VL]
    ·have:=A.Vs;have:=F.Vs;show(dP t0++(dP m++[_])).length<=_;rw[aq,aq];simp;lia
   ·cases h
  ·injection h with h1 h2;injection h1 with h1;subst h1;subst h2;exact A
def nB{a:Nat}{e:Nat}(hs:∀a t e,sum a=(some t,e)->U0 T a t e){t:Tr}(h:wH sum T a=(some t,e)):U0 T a t e:=by
 unfold wH at h;split at h;·rename_i t' e' hF;exact vo hs _ _ _ _ _ (kc hs hF) h
 ·cases h
def vn{a:Nat}(hs:∀a t e,sum a=(some t,e)->U0 T a t e):∀(f:Nat)(t0:Tr)(e0:Nat)(t:Tr)(e:Nat),U0 T a t0 e0->nh sum T a0 f t0 e0=(some t,e)->U0 T a t e
 |0,t0,e0,t,e,A,h=>by injection h with h1 h2;injection h1 with h1;subst h1;subst h2;exact A
 |f+1,t0,e0,t,e,A,h=>by
  unfold nh at h;split at h
  ·rename_i y;split at h
   ·rename_i m e' hF;have F:=nB hs hF;have l1:=A.lt;have l2:=F.lt;have ny:cz T e0≠[]:=by rcases y with y |y<;>rw[y]<;>simp
    have n1:cz T e0≠[40]:=by rcases y with y |y<;>rw[y]<;>simp
    have n2:cz T e0≠[41]:=by rcases y with y |y<;>rw[y]<;>simp
    refine vn hs f _ _ t e ⟨by lia,F.le,λi h1 h2=>?_,?_,?_⟩ h
    ·by_cases q:i<e0;·exact A.good i h1 q
     ·by_cases q2:i=e0;·subst q2;rcases y with y |y<;>exact .inr<|by rw[y];simp
      ·exact F.good i (by lia) h2
    ·rw[F.VL,gb (iP ny) n1 n2,A.VL]
    ·have:=A.Vs;have:=F.Vs;have e1:(dP (if cz T e0=[45]then Tr.sub t0 m else Tr.add t0 m)).length=(dP t0).length+((dP m).length+1):=by
      split;·show(dP t0++(dP m++[_])).length=_;simp
      ·show(dP t0++(dP m++[_])).length=_;simp
     rw[e1];lia
   ·cases h
  ·injection h with h1 h2;injection h1 with h1;subst h1;subst h2;exact A
def NI{a:Nat}{e:Nat}(hs:∀a t e,sum a=(some t,e)->U0 T a t e){t:Tr}(h:HS sum T a=(some t,e)):U0 T a t e:=by
 unfold HS at h;split at h;·rename_i t' e' hF;exact vn hs _ _ _ _ _ (nB hs hF) h
 ·cases h
end
def fN(T:TK):∀(n a:Nat)(t:Tr)(e:Nat),g T n a=(some t,e)->U0 T a t e
 |0,a,t,e,h=>by cases h
 |n+1,a,t,e,h=>NI (fN T n) h
section
variable {SS:LS}{s s1 s':SS.ds}
def EN(ha:Sz SS X ρ a (.str z) s s1)(hb:Sz SS X ρ b (.str w) s1 s')(hz:z.length+w.length<=sizeLine):Sz SS X ρ (.BinOp a .Add b pos) (.str<|z++w) s s':=λB F H σ Q c l k q=>.mk λpins st I=>qw qK aR aR pins st σ H Q I (Fg ha hb l k λx y F' H' c' x' r' rx ry=>by cases rx;cases ry;exact⟨z,w,rfl,rfl,hz,q _ F' H' c' x' r'<|.str _⟩)
def ET{r:Bool}(t:At X N sc)(ha:Se X ρ a d)(hb:Se X ρ b (.lst xs))(sp:(fS d).canLay0=true)(sd:(fS d).depth<=62)(sq:PyData.canLayAll0 (Sq xs)=true)(he:(!(Sq xs).any λy=>PyData.eqv y<|fS d)=r)(hm:behindInMarks .NotIn b=false:=by rfl):Sg X ρ (.Compare a [.NotIn] [b] pos) r:=.of (fY (Mn t sp sd sq) aR aR hm) λB F H σ Q k q=>zy (Se.p ha) (Se.p hb) k λx y F' H' x' rx ry=>⟨rx,ry,r,by rw[he],q F' H' x'⟩
end
def u4{ts:List bZ}(h:∀u∈ts,∀x∈u,x<128):PyData.canLayAll0 (Sq<|az ts)=true:=(Fn.all (n:=1) λx hx=>by obtain⟨u,hu,rfl⟩:=List.mem_map.mp hx;exact⟨dN<|dA<|h u hu,by simp[fS,PyData.depth],by simp[fS,PyData.eqv]⟩).1
def sm(ts:List bZ):cH:=ts.map S
def N3{st:Stmt}{SS:LS}{s a b:SS.ds}(h:Ur SS X ρ st o s a)(e:a=b):Ur SS X ρ st o s b:=e▸h
def Qh{st:List Stmt}{SS:LS}{s a b:SS.ds}(h:Tx SS X ρ st o s a)(e:a=b):Tx SS X ρ st o s b:=e▸h
def Uz.ix{SS:LS}(R:Nat->cA)(T:Nat->SS.ds)(n:Nat)(h:∀i,i<n->SE SS X (R i) cd true (T i) (T i)/\Tx SS X (R i) body (.nx<|R<|i+1) (T i) (T<|i+1))(hn:SE SS X (R n) cd false (T n) (T n)):∀(k i:Nat),i+k=n->Uz SS X cd body k (R i) (T i) (R n) (T n)
 |0,i,e=>by
  have e':i=n:=by lia
  subst e';exact .stop hn
 |k+1,i,e=>.step (h i<|by lia).1 (h i<|by lia).2<|Uz.ix R T n h hn k (i+1)<|by lia
def yj{ρ ρ':cA}{SS:LS}{s s':SS.ds}(t:At X N sc)(R:Nat->cA)(T:Nat->SS.ds)(n:Nat)(h:∀i,i<n->SE SS X (R i) cd true (T i) (T i)/\Tx SS X (R i) body (.nx<|R<|i+1) (T i) (T<|i+1))(hn:SE SS X (R n) cd false (T n) (T n))(e1:R 0=ρ)(e2:T 0=s)(e3:R n=ρ')(e4:T n=s'):Ur SS X ρ (.While cd body [] pos) (.nx ρ') s s':=by subst e1;subst e2;subst e3;subst e4;exact vp t ⟨n,Uz.ix R T n h hn n 0<|by lia⟩
def Lp{ts:cH}(h:∀x∈ts,PyData.strOk x=true)(n:Nat):PyData.strOk (HD<|ts.drop n)=true:=by cases e:ts.drop n with|nil=>decide|cons a b=>exact h a<|Bt (i:=n)<|by rw[e];simp
def OO(w:Str):((Sq [D.str "+",.str "-"]).any λy=>PyData.eqv y<|fS<|.str w)=(decide (w="+")||decide (w="-")):=Pe "+" "-" w
section
variable {p4:Pos}
def sr{z:Str}{b:Bool}{ρ:cA}(t:At X N sc)(ok:gH X.K r)(c2:Si X "next_token" cM)(ho:∀x∈r.toks,PyData.strOk x=true)(hr:ρ[0]?=some (.val<|.adr r.p))(hz:PyData.strOk z=true)(hb:decide (HD (r.toks.drop n)=z)=b)(hN:N[0]?=some ("reader":Str):=by rfl)(hv:fO sc ("reader":Str)=true:=by rfl)(hx:cZ ("reader":Str)=true:=by rfl)(hg:sc.names.lookup ("next_token":Str)=some .globalImplicit:=by rfl):SE (Sk r) X ρ (.Compare (.Call (.Name "next_token" p) [.Name "reader" py] [] pos) [.Eq] [.Constant (.str z) j p2] pos') b ((n:Int),xs) ((n:Int),xs):=SE.eq (Oe (S:=Sk r) t (dC (s:=((n:Int),xs)) (s1:=((n:Int),xs)) (s':=((n:Int),xs)) t ok c2 (bS (Se.z<|aa t 0 hr hN hv hx)<|S3.z ah) ⟨n,rfl,rfl,rfl,rfl⟩ hg) (Se.z Sd) (fV<|Lp ho n) (fV hz) rfl)<|by rw[<-hb];exact lF _ _
def gB{ρ:cA}(t:At X N sc)(ok:gH X.K r)(c3:Si X "take_token" cn)(hr:ρ[0]?=some (.val<|.adr r.p))(hN:N[0]?=some ("reader":Str):=by rfl)(hv:fO sc ("reader":Str)=true:=by rfl)(hx:cZ ("reader":Str)=true:=by rfl)(hg:sc.names.lookup ("take_token":Str)=some .globalImplicit:=by rfl):Sz (Sk r) X ρ (.Call (.Name "take_token" p) [.Name "reader" py] [] pos) (.str<|HD<|r.toks.drop n) ((n:Int),xs) (((n+1:Nat):Int),xs):=dC t ok c3 (bS (Se.z<|aa t 0 hr hN hv hx)<|S3.z ah) ⟨n,rfl,rfl,rfl,by rw[KY];rfl⟩ hg
def Lh{b:Bool}{ρ:cA}(t:At X N sc)(ok:gH X.K r)(c2:Si X "next_token" cM)(ho:∀x∈r.toks,PyData.strOk x=true)(hr:ρ[0]?=some (.val<|.adr r.p))(hb:(decide (HD (r.toks.drop n)="+")||decide (HD (r.toks.drop n)="-"))=b)(hN:N[0]?=some ("reader":Str):=by rfl)(hv:fO sc ("reader":Str)=true:=by rfl)(hx:cZ ("reader":Str)=true:=by rfl)(hg:sc.names.lookup ("next_token":Str)=some .globalImplicit:=by rfl):SE (Sk r) X ρ (.Compare (.Call (.Name "next_token" p) [.Name "reader" py] [] pos) [.In] [.Tuple [.Constant (.str "+") j p2,.Constant (.str "-") j2 p3] kk p4] pos') b ((n:Int),xs) ((n:Int),xs):=Od (S:=Sk r) (xs:=[.str "+",.str "-"]) t (dC (s:=((n:Int),xs)) (s1:=((n:Int),xs)) (s':=((n:Int),xs)) t ok c2 (bS (Se.z<|aa t 0 hr hN hv hx)<|S3.z ah) ⟨n,rfl,rfl,rfl,rfl⟩ hg) (Se.z<|aF<|ac Sd<|ac Sd ah) (dN<|Lp ho n) (dk _) (by decide)<|by rw[OO];exact hb
end
def jX(ts:List bZ)(u:bZ):((Sq<|az ts).any λy=>PyData.eqv y<|fS<|.str<|S u)=decide (u∈ts):=by
 induction ts with
 |nil=>rfl
 |cons v ts ih=>
  show((S v==S u)||((Sq<|az ts).any λy=>PyData.eqv y<|fS<|.str<|S u))=_;rw[ih];by_cases h:v=u;·subst h;simp
  ·have:(S v==S u)=false:=by rw[br];exactλe=>h<|fP e
   rw[this,iz];have h':¬u=v:=λz=>h z.symm;simp[h']
structure Vq(T:TK):Prop where
 lt:∀u∈T,∀c∈u,c<128
 dig:∀u∈T,DH u=qO u
 len:∀u∈T,u.length<=20
 many:T.length<=20000
 deep:∀i,i<=T.length->dp T i<=20
def pI{a:Nat}:cz T a∈T\/cz T a=[]:=by unfold cz;rw[List.getD_eq_getElem?_getD];cases e:T[a]? with|none=>exact .inr rfl|some u=>exact .inl<|List.mem_of_getElem? e
def Vq.c(h:Vq T)(a:Nat):∀c∈cz T a,c<128:=by
 rcases pI (T:=T) (a:=a)with z |z;·exact h.lt _ z
 ·rw[z];exactλc hc=>nomatch hc
def Vq.d(h:Vq T)(a:Nat):DH (cz T a)=qO (cz T a):=by
 rcases pI (T:=T) (a:=a)with z |z;·exact h.dig _ z
 ·rw[z];rfl
def Vq.l(h:Vq T)(a:Nat):(cz T a).length<=20:=by
 rcases pI (T:=T) (a:=a)with z |z;·exact h.len _ z
 ·rw[z];decide
def Vq.so(h:Vq T):∀x∈sm T,PyData.strOk x=true:=λx hx=>by obtain⟨u,hu,rfl⟩:=List.mem_map.mp hx;exact dA<|h.lt u hu
def im(T:TK)(a:Nat):HD ((sm T).drop a)=S (cz T a):=by
 unfold HD sm cz;rw[<-uk,List.getD_eq_getElem?_getD];have:T[a]?=(T.drop a)[0]?:=by rw[List.getElem?_drop,Nat.add_zero]
 rw[this];cases T.drop a with|nil=>show("":Str)=S [];decide|cons u us=>rfl
def Ab{n:Nat}(h:n<=100000):n<sizeLine:=bH h<|by decide
def CZ(G:TK->Nat->PR)(n:Nat)(toks:cH)(ds:aQ)(s:Int×aQ)(d:D)(s':Int×aQ):Prop:=∃(T:TK)(a:Nat)(t:Tr)(e:Nat),ds=[]/\toks=sm T/\Vq T/\s.1=(a:Int)/\dp T a+n=21/\s.2.length<=2*a/\G T n a=(some t,e)/\d=.Sy/\s'=((e:Int),s.2++az (dP t))
def RZ(G:TK->Nat->PR)(n:Nat)(toks:cH)(ds:aQ)(s:Int×aQ):Prop:=∃(T:TK)(a:Nat),ds=[]/\toks=sm T/\Vq T/\s.1=(a:Int)/\dp T a+n=21/\s.2.length<=2*a/\(G T n a).1=none
def CZ.len{G:TK->Nat->PR}:∀ts ds s d s',CZ G n ts ds s d s'->ds.length+1=1:=by rintro _ _ _ _ _ ⟨_,_,_,_,rfl,_⟩;rfl
def RZ.len{G:TK->Nat->PR}:∀ts ds s,RZ G n ts ds s->ds.length+1=1:=by rintro _ _ _ ⟨_,_,rfl,_⟩;rfl
def GA(T:TK):Nat->PR
 |0=>λa=>(none,a)
 |n+1=>gQ (g T n) T
def GW(T:TK):Nat->PR
 |0=>λa=>(none,a)
 |n+1=>tV (g T n) T
def GF(T:TK):Nat->PR
 |0=>λa=>(none,a)
 |n+1=>kL (g T n) T
def GP(T:TK):Nat->PR
 |0=>λa=>(none,a)
 |n+1=>wH (g T n) T
def jD(toks:cH)(ds:aQ)(s:Int×aQ)(d:D)(s':Int×aQ):Prop:=∃(T:TK)(a:Nat)(ts:TK),(ds=[.lst<|az ts]\/ds=[.tup<|az ts])/\toks=sm T/\Vq T/\s.1=(a:Int)/\(∀u∈ts,∀x∈u,x<128)/\cz T a∈ts/\d=.str (S<|cz T a)/\s'=(((a+1:Nat):Int),s.2)
def uH:∀ts ds s d s',jD ts ds s d s'->ds.length+1=2:=by rintro _ _ _ _ _ ⟨a,b,c,rfl |rfl,_⟩<;>rfl
def jA(toks:cH)(ds:aQ)(s:Int×aQ):Prop:=∃(T:TK)(a:Nat)(ts:TK),(ds=[.lst<|az ts]\/ds=[.tup<|az ts])/\toks=sm T/\Vq T/\s.1=(a:Int)/\(∀u∈ts,∀x∈u,x<128)/\cz T a∉ts
def tO:∀ts ds s,jA ts ds s->ds.length+1=2:=by rintro _ _ _ ⟨a,b,c,rfl |rfl,_⟩<;>rfl
def lT(toks:cH)(ds:aQ)(s:Int×aQ):Prop:=∃n:Nat,ds=[]/\s.1=n/\n<toks.length
def tP:∀ts ds s,lT ts ds s->ds.length+1=1:=by rintro _ _ _ ⟨a,rfl,_⟩;rfl
def wX(h:DefX P w K mg base k S6 (ai fT) X)(c1:Si X "take_token" cn):Qd X S6 fT jD:=by
 rintro r ok ds ⟨i,xs⟩ d s' ⟨T,a,ts,hds,er,hT,hn,S1,hu,rfl,rfl⟩;have t:=h.at';haveI:=h.S5;have Ux:i=(a:Int):=hn;subst Ux;have Zl:(!(Sq<|az ts).any λy=>PyData.eqv y<|fS<|.str<|S<|cz T a)=false:=by rw[jX,ap hu];rfl
 refine .inl ?_;rcases hds with rfl |rfl;·show Tx (Sk r) X [.val<|.adr r.p,.val<|.lst<|az ts,.un] _ _ _ _;exact cy (lJ t 2<|Sz.eq (gB t ok c1 rfl)<|by rw[er,im])<|cy (tj (Sg.z<|ET t (aa t 2) (aa t 1) (dN<|dA<|hT.c a) (dk _) (u4 S1) Zl) vt)<|dU<|vq<|Se.z<|aa t 2
 ·show Tx (Sk r) X [.val<|.adr r.p,.val<|.tup<|az ts,.un] _ _ _ _;exact cy (lJ t 2<|Sz.eq (gB t ok c1 rfl)<|by rw[er,im])<|cy (tj (Sg.z<|ER t (aa t 2) (aa t 1) (dN<|dA<|hT.c a) (dk _) (u4 S1) Zl) vt)<|dU<|vq<|Se.z<|aa t 2
def w5(h:DefX P w K mg base k S6 (ai fT) X)(c1:Si X "take_token" cn)(O:OwnCls "NoText" C vB vN mg base):∀(r:jl),gH X.K r->∀ds s,jA r.toks ds s->mJ (Sk r) X (.val (.adr r.p)::ds.map Sl.val++List.replicate (S6.length-(ds.length+1)) Sl.un) (aD fT) C s:=by
 rintro r ok ds ⟨i,xs⟩ ⟨T,a,ts,hds,er,hT,hn,S1,hu⟩;have t:=h.at';haveI:=h.S5;have O':OwnCls "NoText" C vB vN X.mg X.base:=by rw[h.Up,h.Uk];exact O
 have Ux:i=(a:Int):=hn;subst Ux;have Zl:(!(Sq<|az ts).any λy=>PyData.eqv y<|fS<|.str<|S<|cz T a)=true:=by rw[jX,ak hu];rfl
 rcases hds with rfl |rfl;·show mJ (Sk r) X [.val<|.adr r.p,.val<|.lst<|az ts,.un] _ _ _;exact de t (lJ t 2<|Sz.eq (gB t ok c1 rfl)<|by rw[er,im])<|bG<|tq t (Sg.z<|ET t (aa t 2) (aa t 1) (dN<|dA<|hT.c a) (dk _) (u4 S1) Zl)<|bG<|Vw.z<|jW t O' Sd
 ·show mJ (Sk r) X [.val<|.adr r.p,.val<|.tup<|az ts,.un] _ _ _;exact de t (lJ t 2<|Sz.eq (gB t ok c1 rfl)<|by rw[er,im])<|bG<|tq t (Sg.z<|ER t (aa t 2) (aa t 1) (dN<|dA<|hT.c a) (dk _) (u4 S1) Zl)<|bG<|Vw.z<|jW t O' Sd
def w6(h:DefX P w K mg base k S7 (ai fU) X)(Sm:mg "len"=none)(O:OwnCls "NoText" C vB vN mg base):∀(r:jl),gH X.K r->∀ds s,lT r.toks ds s->mJ (Sk r) X (.val (.adr r.p)::ds.map Sl.val++List.replicate (S7.length-(ds.length+1)) Sl.un) (aD fU) C s:=by
 rintro r ok ds ⟨i,xs⟩ ⟨n,rfl,hn,hl⟩;have t:=h.at';have O':OwnCls "NoText" C vB vN X.mg X.base:=by rw[h.Up,h.Uk];exact O
 have b1:=h.bt Sm;have Ux:i=(n:Int):=hn;subst Ux;show mJ (Sk r) X [.val<|.adr r.p] _ _ _;refine bG<|tq t (SE.eq (D8 (sg t ok 0 rfl)<|AB t b1<|se t ok 0 rfl) ?_)<|bG<|Vw.z<|jW t O' Sd;rw[aj,bj];show(n:Int)<_;lia
def KL:("(":Str)=S [40]:=by decide
def Pr:(")":Str)=S [41]:=by decide
def KJ:("*":Str)=S [42]:=by decide
def Ps:("+":Str)=S [43]:=by decide
def Ga:("-":Str)=S [45]:=by decide
def KI:("^":Str)=S [94]:=by decide
def Ri:("x":Str)=S [120]:=by decide
def Rg:("y":Str)=S [121]:=by decide
def ip(u v:bZ):decide (S u=S v)=decide (u=v):=by
 by_cases h:u=v;·rw[h];simp
 ·rw[ak h,ak λz=>h<|fP z]
def Fc{p4:Pos}(t:At X N sc)(hT:Vq T)(c4:EV.Callee X "is_number" jL)(hx:Se X ρ ex (.str<|S<|cz T a))(hy:Se X ρ ey (.str<|S<|cz T a))(hp:Pl ex:=by intro _ _;rfl)(hg:sc.names.lookup ("is_number":Str)=some .globalImplicit:=by rfl):Sg X ρ (.BoolOp .Or [.Call (.Name "is_number" p1) [ex] [] p2,.Compare ey [.In] [.Tuple [.Constant (.str "x") i p3,.Constant (.str "y") j p4] k0 p5] p6] p7) (xh<|cz T a):=by refine Sg.eq (fG (jJ<|aG t c4 (ac hx ah hp) ⟨cz T a,rfl,hT.c a,by have:=hT.l a;lia,rfl⟩ hg) λ_=>Nv t hy<|dA<|hT.c a) ?_;rw[hT.d,Ri,Rg,ip,ip];rfl
def AY(h:DefX P w K mg base k Td (ai gf) X)(c1:Si X "take_token" cn)(c2:Si X "read_sum" (CZ g n))(c3:Si X "take_one_of" jD)(c4:EV.Callee X "is_number" jL):∀(r:jl),gH X.K r->∀ds s d s',CZ GA (n+1) r.toks ds s d s'->Tx (Sk r) X (.val (.adr r.p)::ds.map Sl.val++List.replicate (Td.length-(ds.length+1)) Sl.un) (aD gf) (.rt d) s s'\/(d=.Sy/\∃ρ',Tx (Sk r) X (.val (.adr r.p)::ds.map Sl.val++List.replicate (Td.length-(ds.length+1)) Sl.un) (aD gf) (.nx ρ') s s'):=by
 rintro r ok ds ⟨i,xs⟩ d s' ⟨T,a,tr,e,rfl,er,hT,hn,hd,hl,hG,rfl,rfl⟩;have t:=h.at';haveI:=h.S5;have Ux:i=(a:Int):=hn;subst Ux;have XA:xs.length<=2*a:=hl;have A:=xj (fN T n) hG;have al:=A.lt;have ae:=A.le;have tm:=hT.many;refine .inr ⟨rfl,[.val<|.adr r.p,.val<|.str<|S<|cz T a],?_⟩;show Tx (Sk r) X [.val<|.adr r.p,.un] _ _ _ _;refine cy (lJ t 1<|Sz.eq (gB t ok c1 rfl)<|by rw[er,im]) ?_;have S2:gQ (g T n) T a=(some tr,e):=hG;unfold gQ at S2;split at S2;·rename_i z;injection S2 with h1 h2;injection h1 with h1;subst h1;subst h2;refine dU<|tj (Sg.z<|Sg.eq (cf t (aa t 1) Sd<|dA<|hT.c a)<|by rw[KL,ip];exact ak<|DV z<|by decide)<|dU<|zw (Sg.z<|Sg.eq (Fc t hT c4 (aa t 1)<|aa t 1) z)<|dU<|m7 t ok 0 rfl (Se.z<|aa t 1)<|Ab<|by show xs.length<=100000;lia
 ·split at S2
  ·rename_i z;split at S2
   ·rename_i t' e' hs;split at S2;·rename_i y;injection S2 with h1 h2;injection h1 with h1;subst h1;subst h2;have dp1:=sI z;refine dU<|zw (Sg.z<|Sg.eq (cf t (aa t 1) Sd<|dA<|hT.c a)<|by rw[KL,ip];exact ap z)<|cy (s1:=((e':Int),xs++az (dP t'))) (dj<|dC t ok c2 (bS (Se.z<|aa t 0)<|S3.z ah) ⟨T,a+1,t',e',rfl,er,hT,rfl,by lia,by show xs.length<=2*(a+1);lia,hs,rfl,rfl⟩)<|dU<|dj<|dC t ok c3 (bS (Se.z<|aa t 0)<|bS (Se.z<|aF<|ac Sd ah)<|S3.z ah) ⟨T,e',[[41]],.inr<|by rw[Pr];rfl,er,hT,rfl,(by decide),by rw[y];simp,rfl,rfl⟩
    ·cases S2
   ·cases S2
  ·cases S2
def A3(h:DefX P w K mg base k Td (ai gf) X)(c1:Si X "take_token" cn)(c2:Si X "read_sum" (CZ g n))(x2:fQ X "read_sum" C (RZ g n))(x3:fQ X "take_one_of" C jA)(c4:EV.Callee X "is_number" jL)(O:OwnCls "NoText" C vB vN mg base):∀(r:jl),gH X.K r->∀ds s,RZ GA (n+1) r.toks ds s->mJ (Sk r) X (.val (.adr r.p)::ds.map Sl.val++List.replicate (Td.length-(ds.length+1)) Sl.un) (aD gf) C s:=by
 rintro r ok ds ⟨i,xs⟩ ⟨T,a,rfl,er,hT,hn,hd,hl,hG⟩;have t:=h.at';haveI:=h.S5;have O':OwnCls "NoText" C vB vN X.mg X.base:=by rw[h.Up,h.Uk];exact O
 have Ux:i=(a:Int):=hn;subst Ux;have XA:xs.length<=2*a:=hl;show mJ (Sk r) X [.val<|.adr r.p,.un] _ _ _;refine de t (lJ t 1<|Sz.eq (gB t ok c1 rfl)<|by rw[er,im]) ?_;have S2:(gQ (g T n) T a).1=none:=hG;unfold gQ at S2;by_cases z:xh (cz T a)=true;·rw[ax z]at S2;cases S2
 ·rw[av z]at S2;by_cases y:cz T a=[40]
  ·have dp1:=sI y;refine bG<|tq t (Sg.z<|Sg.eq (cf t (aa t 1) Sd<|dA<|hT.c a)<|by rw[KL,ip];exact ap y) ?_;rw[ax y]at S2;cases hs:g T n (a+1)with
   |mk o e'=>
    rw[hs]at S2;cases o with
    |none=>exact bG<|gU<|iC t ok x2 (bS (Se.z<|aa t 0)<|S3.z ah) ⟨T,a+1,rfl,er,hT,rfl,by lia,by show xs.length<=2*(a+1);lia,by rw[hs]⟩
    |some t'=>
     by_cases q:cz T e'=[41];·simp only[ax q]at S2;cases S2
     ·exact de t (s1:=((e':Int),xs++az (dP t'))) (dj<|dC t ok c2 (bS (Se.z<|aa t 0)<|S3.z ah) ⟨T,a+1,t',e',rfl,er,hT,rfl,by lia,by show xs.length<=2*(a+1);lia,hs,rfl,rfl⟩)<|bG<|gU<|iC t ok x3 (bS (Se.z<|aa t 0)<|bS (Se.z<|aF<|ac Sd ah)<|S3.z ah) ⟨T,e',[[41]],.inr<|by rw[Pr];rfl,er,hT,rfl,(by decide),by simpa using q⟩
  ·exact bG<|CV t (Sg.z<|Sg.eq (cf t (aa t 1) Sd<|dA<|hT.c a)<|by rw[KL,ip];exact ak y)<|bG<|CV t (Sg.z<|Sg.eq (Fc t hT c4 (aa t 1)<|aa t 1)<|by simpa using z)<|bG<|Vw.z<|jW t O' Sd
def EM:IT VN=az xT:=by unfold IT az;rw[show VN.cps.toList=[48,49,50,51,52,53,54,55,56,57]by decide];rfl
def xX{n:Nat}(h:DefX P w K mg base k SU (ai fF) X)(UJ:mg "list"=none)(c1:Si X "read_atom" (CZ GA<|n+1))(c2:Si X "next_token" cM)(c3:Si X "take_token" cn)(c4:Si X "take_one_of" jD)(gF:∃tk,mg "FIGURES"=some (.str VN tk)):∀(r:jl),gH X.K r->∀ds s d s',CZ GW (n+1) r.toks ds s d s'->Tx (Sk r) X (.val (.adr r.p)::ds.map Sl.val++List.replicate (SU.length-(ds.length+1)) Sl.un) (aD fF) (.rt d) s s'\/(d=.Sy/\∃ρ',Tx (Sk r) X (.val (.adr r.p)::ds.map Sl.val++List.replicate (SU.length-(ds.length+1)) Sl.un) (aD fF) (.nx ρ') s s'):=by
 rintro r ok ds ⟨i,xs⟩ d s' ⟨T,a,tr,e,rfl,er,hT,hn,hd,hl,hG,rfl,rfl⟩;have t:=h.at';haveI:=h.S5;have b1:=h.bt UJ;have XF:∃tk,X.mg "FIGURES"=some (.str VN tk):=by rw[h.Up];exact gF
 have ho:∀x∈r.toks,PyData.strOk x=true:=by rw[er];exact hT.so
 have Ux:i=(a:Int):=hn;subst Ux;have XA:xs.length<=2*a:=hl;have tm:=hT.many;refine .inr ⟨rfl,[.val<|.adr r.p],?_⟩;show Tx (Sk r) X [.val<|.adr r.p] _ _ _ _;have S2:tV (g T n) T a=(some tr,e):=hG;unfold tV at S2;split at S2
 ·rename_i t' e' hs;have A:=xj (fN T n) hs;have al:=A.lt;have ae:=A.le;have fw:=A.Vs;refine cy (s1:=((e':Int),xs++az (dP t'))) (dj<|dC t ok c1 (bS (Se.z<|aa t 0)<|S3.z ah) ⟨T,a,t',e',rfl,er,hT,rfl,hd,hl,hs,rfl,rfl⟩) ?_;split at S2
  ·rename_i y;split at S2;·rename_i z;injection S2 with h1 h2;injection h1 with h1;subst h1;subst h2;have z':cz T (e'+1)∈xT:=cE z;obtain⟨zu,zd⟩:=AA _ z';refine dU<|zw (sr t ok c2 ho rfl (by decide)<|by rw[er,im,KI,ip];exact ap y)<|cy (dj<|gB t ok c3 rfl)<|dU ?_;refine N3 (m7 t ok 0 rfl (Sz.eq (EN (s:=(((e'+1:Nat):Int),xs++az (dP t'))) (Se.z Sd) (dC t ok c4 (bS (Se.z<|aa t 0)<|bS (Se.z<|Se.eq (Ss.SF<|Ce t b1 (oP t XF)<|by decide)<|by rw[EM])<|S3.z ah) ⟨T,e'+1,xT,.inl rfl,er,hT,rfl,(by decide),z',rfl,rfl⟩)<|by rw[cq,show("^":Str).length=1 by decide];exact ao (show 1+(cz T<|e'+1).length<=100 by have:=hT.l<|e'+1;lia)<|by decide) (show D.str (("^":Str)++S (cz T<|e'+1))=.str (S [94,48+dg (cz T<|e'+1)])by rw[KI,uz];congr 2;exact aV (List.cons 94) zu))<|Ab<|by show(xs++az (dP t')).length<=100000;unfold az;rw[aq,aj];lia) ?_;refine Ge rfl ?_;show xs++az (dP t')++[_]=xs++az (dP t'++[_]);unfold az;rw[aN,bf];rfl
   ·cases S2
  ·rename_i y;injection S2 with h1 h2;injection h1 with h1;subst h1;subst h2;exact dU<|tj (sr t ok c2 ho rfl (by decide)<|by rw[er,im,KI,ip];exact ak y) vt
 ·cases S2
def xZ{n:Nat}(h:DefX P w K mg base k SU (ai fF) X)(UJ:mg "list"=none)(c1:Si X "read_atom" (CZ GA<|n+1))(x1:fQ X "read_atom" C (RZ GA<|n+1))(c2:Si X "next_token" cM)(c3:Si X "take_token" cn)(x4:fQ X "take_one_of" C jA)(gF:∃tk,mg "FIGURES"=some (.str VN tk)):∀(r:jl),gH X.K r->∀ds s,RZ GW (n+1) r.toks ds s->mJ (Sk r) X (.val (.adr r.p)::ds.map Sl.val++List.replicate (SU.length-(ds.length+1)) Sl.un) (aD fF) C s:=by
 rintro r ok ds ⟨i,xs⟩ ⟨T,a,rfl,er,hT,hn,hd,hl,hG⟩;have t:=h.at';haveI:=h.S5;have b1:=h.bt UJ;have XF:∃tk,X.mg "FIGURES"=some (.str VN tk):=by rw[h.Up];exact gF
 have ho:∀x∈r.toks,PyData.strOk x=true:=by rw[er];exact hT.so
 have Ux:i=(a:Int):=hn;subst Ux;show mJ (Sk r) X [.val<|.adr r.p] _ _ _;have S2:(tV (g T n) T a).1=none:=hG;unfold tV at S2;cases hs:gQ (g T n) T a with
 |mk o e'=>
  rw[hs]at S2;cases o with
  |none=>exact bG<|gU<|iC t ok x1 (bS (Se.z<|aa t 0)<|S3.z ah) ⟨T,a,rfl,er,hT,rfl,hd,hl,by show(gQ (g T n) T a).1=none;rw[hs]⟩
  |some t'=>
   refine de t (s1:=((e':Int),xs++az (dP t'))) (dj<|dC t ok c1 (bS (Se.z<|aa t 0)<|S3.z ah) ⟨T,a,t',e',rfl,er,hT,rfl,hd,hl,hs,rfl,rfl⟩) ?_;by_cases y:cz T e'=[94]
   ·simp only[ax y]at S2;by_cases z:Nj (cz T<|e'+1)=true;·simp only[ax z]at S2;cases S2
    ·have z':cz T (e'+1)∉xT:=λq=>z<|ap q;exact bG<|tq t (sr t ok c2 ho rfl (by decide)<|by rw[er,im,KI,ip];exact ap y)<|de t (dj<|gB t ok c3 rfl)<|bG<|gU<|yk t (JB t ok 0 rfl)<|LW t (Se.z Sd)<|iC t ok x4 (bS (Se.z<|aa t 0)<|bS (Se.z<|Se.eq (Ss.SF<|Ce t b1 (oP t XF)<|by decide)<|by rw[EM])<|S3.z ah) ⟨T,e'+1,xT,.inl rfl,er,hT,rfl,(by decide),z'⟩
   ·simp only[av y]at S2;cases S2
def wZ{n:Nat}(h:DefX P w K mg base k SN (ai fk) X)(c1:Si X "read_power" (CZ GW<|n+1))(c2:Si X "next_token" cM)(c3:Si X "take_token" cn)(gM:∃tk,mg "MOST_MINUSES"=some (.int 20 tk)):∀(r:jl),gH X.K r->∀ds s d s',CZ GF (n+1) r.toks ds s d s'->Tx (Sk r) X (.val (.adr r.p)::ds.map Sl.val++List.replicate (SN.length-(ds.length+1)) Sl.un) (aD fk) (.rt d) s s'\/(d=.Sy/\∃ρ',Tx (Sk r) X (.val (.adr r.p)::ds.map Sl.val++List.replicate (SN.length-(ds.length+1)) Sl.un) (aD fk) (.nx ρ') s s'):=by
 rintro r ok ds ⟨i,xs⟩ d s' ⟨T,a,tr,e,rfl,er,hT,hn,hd,hl,hG,rfl,rfl⟩;have t:=h.at';haveI:=h.S5;have Wl:∃tk,X.mg "MOST_MINUSES"=some (.int 20 tk):=by rw[h.Up];exact gM
 have ho:∀x∈r.toks,PyData.strOk x=true:=by rw[er];exact hT.so
 have Ux:i=(a:Int):=hn;subst Ux;have XA:xs.length<=2*a:=hl;have tm:=hT.many;have S2:kL (g T n) T a=(some tr,e):=hG;unfold kL at S2;have mis:=wk T a;have Yi:=Ar T a;have mdp:=wl T a (lP T a)<|ar _;generalize lP T a=m at*;refine .inr ⟨rfl,[.val<|.adr r.p,.val<|.int m],?_⟩;show Tx (Sk r) X [.val<|.adr r.p,.un] _ _ _ _;refine cy (SQ.z<|aX t 1 af)<|cy (ρ1:=[.val<|.adr r.p,.val<|.int m]) (s1:=(((a+m:Nat):Int),xs)) (yj t (λi=>[.val<|.adr r.p,.val<|.int i]) (λi=>(((a+i:Nat):Int),xs)) m (λi hi=>?_) ?_ rfl rfl rfl rfl) ?_;·exact⟨sr t ok c2 ho rfl (by decide)<|by rw[er,im,Ga,ip];exact ap<|mis i hi,cy (dj<|gB t ok c3 rfl)<|dU<|SQ.z<|lN t 1 (v:=((i+1:Nat):Int)) rfl af<|by lia⟩
 ·exact sr t ok c2 ho rfl (by decide)<|by rw[er,im,Ga,ip];exact ak Yi
 split at S2
 ·rename_i t' e' hs;have A:=Fd (fN T n) hs;have al:=A.lt;have ae:=A.le;have fw:=A.Vs;split at S2;·cases S2
  ·rename_i y;injection S2 with h1 h2;injection h1 with h1;subst h1;subst h2;refine cy (SQ.z<|cB (Sg.eq (fg (aa t 1)<|iQ t Wl)<|ak<|by lia) bQ) ?_;refine cy (s1:=((e':Int),xs++az (dP t'))) (dj<|dC t ok c1 (bS (Se.z<|aa t 0)<|S3.z ah) ⟨T,a+m,t',e',rfl,er,hT,rfl,by rw[mdp];exact hd,by show xs.length<=2*(a+m);lia,hs,rfl,rfl⟩) ?_;unfold ng;by_cases q:m%2=1;·rw[ax q];refine Qh (dU<|zw (Sg.z<|Sg.eq (Ie<|Se.eq (EQ (k:=1) (aa t 1) af) rfl)<|by show(!decide ((m:Int)%2 ^ 1=0))=true;rw[ak<|by lia];rfl)<|dU<|m7 t ok 0 rfl (Se.z Sd)<|Ab<|by show(xs++az (dP t')).length<=100000;unfold az;rw[aq,aj];lia) ?_;refine Ge rfl ?_;show xs++az (dP t')++[.str "minus"]=xs++az (dP t'++[[109,105,110,117,115]]);rw[show("minus":Str)=S [109,105,110,117,115]by decide];unfold az;rw[aN,bf];rfl
   ·rw[av q];exact dU<|tj (Sg.z<|Sg.eq (Ie<|Se.eq (EQ (k:=1) (aa t 1) af) rfl)<|by show(!decide ((m:Int)%2 ^ 1=0))=false;rw[ap<|by lia];rfl) vt
 ·cases S2
def w9{n:Nat}(h:DefX P w K mg base k SN (ai fk) X)(x1:fQ X "read_power" C (RZ GW<|n+1))(c2:Si X "next_token" cM)(c3:Si X "take_token" cn)(gM:∃tk,mg "MOST_MINUSES"=some (.int 20 tk))(O:OwnCls "NoText" C vB vN mg base):∀(r:jl),gH X.K r->∀ds s,RZ GF (n+1) r.toks ds s->mJ (Sk r) X (.val (.adr r.p)::ds.map Sl.val++List.replicate (SN.length-(ds.length+1)) Sl.un) (aD fk) C s:=by
 rintro r ok ds ⟨i,xs⟩ ⟨T,a,rfl,er,hT,hn,hd,hl,hG⟩;have t:=h.at';haveI:=h.S5;have O':OwnCls "NoText" C vB vN X.mg X.base:=by rw[h.Up,h.Uk];exact O
 have Wl:∃tk,X.mg "MOST_MINUSES"=some (.int 20 tk):=by rw[h.Up];exact gM
 have ho:∀x∈r.toks,PyData.strOk x=true:=by rw[er];exact hT.so
 have Ux:i=(a:Int):=hn;subst Ux;have XA:xs.length<=2*a:=hl;have S2:(kL (g T n) T a).1=none:=hG;unfold kL at S2;have mis:=wk T a;have Yi:=Ar T a;have mdp:=wl T a (lP T a)<|ar _;generalize lP T a=m at*;show mJ (Sk r) X [.val<|.adr r.p,.un] _ _ _;refine de t (SQ.z<|aX t 1 af)<|de t (ρ1:=[.val<|.adr r.p,.val<|.int m]) (s1:=(((a+m:Nat):Int),xs)) (yj t (λi=>[.val<|.adr r.p,.val<|.int i]) (λi=>(((a+i:Nat):Int),xs)) m (λi hi=>?_) ?_ rfl rfl rfl rfl) ?_;·exact⟨sr t ok c2 ho rfl (by decide)<|by rw[er,im,Ga,ip];exact ap<|mis i hi,cy (dj<|gB t ok c3 rfl)<|dU<|SQ.z<|lN t 1 (v:=((i+1:Nat):Int)) rfl af<|by lia⟩
 ·exact sr t ok c2 ho rfl (by decide)<|by rw[er,im,Ga,ip];exact ak Yi
 by_cases y:20<m;·exact bG<|Vw.z<|By t (Sg.eq (fg (aa t 1)<|iQ t Wl)<|ap<|by lia)<|mP<|jW t O' Sd
 ·refine de t (SQ.z<|cB (Sg.eq (fg (aa t 1)<|iQ t Wl)<|ak<|by lia) bQ) ?_;cases hs:tV (g T n) T (a+m)with|mk o e'=>rw[hs]at S2;cases o with|none=>exact bG (gU<|iC t ok x1 (bS (Se.z<|aa t 0)<|S3.z ah) ⟨T,a+m,rfl,er,hT,rfl,by rw[mdp];exact hd,by show xs.length<=2*(a+m);lia,by show(tV (g T n) T<|a+m).1=none;rw[hs]⟩)|some t'=>simp only[av y]at S2;cases S2
def Es(hT:Vq T)(h1:∀e xs,SE (Sk r) X R cd (decide<|cz T e=[42]) (((e:Nat):Int),xs) ((e:Int),xs))(h2:∀e xs m e',cz T e=[42]->kL (g T n) T (e+1)=(some m,e')->dp T e+(n+1:Nat)=21->xs.length<=2*e->Tx (Sk r) X R body (.nx R) (((e:Nat):Int),xs) ((e':Int),xs++az (dP m++[[42]]))):∀(f:Nat)(t0:Tr)(e0:Nat)(xs:aQ)(t:Tr)(e a:Nat),U0 T a t0 e0->T.length<=e0+f->dp T a+(n+1:Nat)=21->xs.length<=2*a->ni (g T n) T a0 f t0 e0=(some t,e)->∃k,Uz (Sk r) X cd body k R ((e0:Int),xs++az (dP t0)) R ((e:Int),xs++az (dP t))
 |0,t0,e0,xs,t,e,a,A,hf,hd,hx,hG=>by injection hG with q1 q2;injection q1 with q1;subst q1;subst q2;refine⟨0,.stop<|SE.eq (h1 e0 _) (ak λz=>?_)⟩;have:=iP (T:=T) (i:=e0) (by rw[z];simp);lia
 |f+1,t0,e0,xs,t,e,a,A,hf,hd,hx,hG=>by
  unfold ni at hG;split at hG
  ·rename_i y;split at hG
   ·rename_i m e' hF;have F:=kc (fN T n) hF;have l1:=A.lt;have l2:=F.lt;have fa:=A.Vs;have ff:=F.Vs;have ln:(xs++az (dP t0)).length<=2*e0:=by unfold az;rw[aq,aj];lia
    have A':U0 T a (.mul t0 m) e':=vo (a0:=a0) (fN T n) 1 t0 e0 _ _ A (by unfold ni;rw[ax y,hF];rfl);obtain⟨k,run⟩:=Es hT h1 h2 f (.mul t0 m) e' xs t e a A' (by lia) hd hx hG;refine⟨k+1,.step (SE.eq (h1 e0 _)<|ap y) (h2 e0 _ m e' y hF (by rw[A.VL];exact hd) ln) ?_⟩;have ex:xs++az (dP t0)++az (dP m++[[42]])=xs++az (dP<|.mul t0 m):=by show _=xs++az (dP t0++(dP m++[[42]]));unfold az;rw[aN (l₁:=dP t0),bf]
    rw[ex];exact run
   ·cases hG
  ·rename_i y;injection hG with q1 q2;injection q1 with q1;subst q1;subst q2;exact⟨0,.stop<|SE.eq (h1 e0 _)<|ak y⟩
def BP(hT:Vq T)(h1:∀e xs,SE (Sk r) X R cd (decide<|cz T e=[42]) (((e:Nat):Int),xs) ((e:Int),xs))(h2:∀e xs m e',cz T e=[42]->kL (g T n) T (e+1)=(some m,e')->dp T e+(n+1:Nat)=21->xs.length<=2*e->Tx (Sk r) X R body (.nx R) (((e:Nat):Int),xs) ((e':Int),xs++az (dP m++[[42]])))(h3:∀e xs,cz T e=[42]->(kL (g T n) T<|e+1).1=none->dp T e+(n+1:Nat)=21->xs.length<=2*e->mJ (Sk r) X R body C (((e:Nat):Int),xs)):∀(f:Nat)(t0:Tr)(e0:Nat)(xs:aQ)(a:Nat),U0 T a t0 e0->dp T a+(n+1:Nat)=21->xs.length<=2*a->(ni (g T n) T a0 f t0 e0).1=none->∃k,oW (Sk r) X cd body C k R ((e0:Int),xs++az (dP t0))
 |0,t0,e0,xs,a,A,hd,hx,hG=>by cases hG
 |f+1,t0,e0,xs,a,A,hd,hx,hG=>by
  unfold ni at hG;by_cases y:cz T e0=[42]
  ·rw[ax y]at hG;have l1:=A.lt;have fa:=A.Vs;have ln:(xs++az (dP t0)).length<=2*e0:=by unfold az;rw[aq,aj];lia
   cases hF:kL (g T n) T (e0+1)with
   |mk o e'=>
    rw[hF]at hG;cases o with
    |none=>exact⟨0,.here (SE.eq (h1 e0 _)<|ap y)<|h3 e0 _ y (by rw[hF]) (by rw[A.VL];exact hd) ln⟩
    |some m=>
     have A':U0 T a (.mul t0 m) e':=vo (a0:=a0) (fN T n) 1 t0 e0 _ _ A (by unfold ni;rw[ax y,hF];rfl);obtain⟨k,run⟩:=BP hT h1 h2 h3 f (.mul t0 m) e' xs a A' hd hx hG;refine⟨k+1,.next (SE.eq (h1 e0 _)<|ap y) (h2 e0 _ m e' y hF (by rw[A.VL];exact hd) ln) ?_⟩;have ex:xs++az (dP t0)++az (dP m++[[42]])=xs++az (dP<|.mul t0 m):=by show _=xs++az (dP t0++(dP m++[[42]]));unfold az;rw[aN (l₁:=dP t0),bf]
     rw[ex];exact run
  ·rw[av y]at hG;cases hG
def K7{u:bZ}{t0 m:Tr}(y:u=[43]\/u=[45]):dP (if u=[45]then .sub t0 m else .add t0 m)=dP t0++(dP m++[u]):=by
 rcases y with rfl |rfl;·rw[av<|by decide];rfl
 ·rw[ax rfl];rfl
def Eg(hT:Vq T)(h1:∀e xs,SE (Sk r) X R cd ((decide<|cz T e=[43]\/cz T e=[45])) (((e:Nat):Int),xs) ((e:Int),xs))(h2:∀e xs m e',(cz T e=[43]\/cz T e=[45])->wH (g T n) T (e+1)=(some m,e')->dp T e+(n+1:Nat)=21->xs.length<=2*e->Tx (Sk r) X R body (.nx R) (((e:Nat):Int),xs) ((e':Int),xs++az (dP m++[cz T e]))):∀(f:Nat)(t0:Tr)(e0:Nat)(xs:aQ)(t:Tr)(e a:Nat),U0 T a t0 e0->T.length<=e0+f->dp T a+(n+1:Nat)=21->xs.length<=2*a->nh (g T n) T a0 f t0 e0=(some t,e)->∃k,Uz (Sk r) X cd body k R ((e0:Int),xs++az (dP t0)) R ((e:Int),xs++az (dP t))
 |0,t0,e0,xs,t,e,a,A,hf,hd,hx,hG=>by injection hG with q1 q2;injection q1 with q1;subst q1;subst q2;refine⟨0,.stop<|SE.eq (h1 e0 _) (ak λz=>?_)⟩;have:=iP (T:=T) (i:=e0) (by rcases z with z |z<;>rw[z]<;>simp);lia
 |f+1,t0,e0,xs,t,e,a,A,hf,hd,hx,hG=>by
  unfold nh at hG;split at hG
  ·rename_i y;split at hG
   ·rename_i m e' hF;have F:=nB (fN T n) hF;have l1:=A.lt;have l2:=F.lt;have fa:=A.Vs;have ff:=F.Vs;have ln:(xs++az (dP t0)).length<=2*e0:=by unfold az;rw[aq,aj];lia
    have A':U0 T a (if cz T e0=[45]then .sub t0 m else .add t0 m) e':=vn (a0:=a0) (fN T n) 1 t0 e0 _ _ A (by unfold nh;rw[ax y,hF];rfl);obtain⟨k,run⟩:=Eg hT h1 h2 f (if cz T e0=[45]then .sub t0 m else .add t0 m) e' xs t e a A' (by lia) hd hx hG;refine⟨k+1,.step (SE.eq (h1 e0 _)<|ap y) (h2 e0 _ m e' y hF (by rw[A.VL];exact hd) ln) ?_⟩;have ex:xs++az (dP t0)++az (dP m++[cz T e0])=xs++az (dP (if cz T e0=[45]then .sub t0 m else .add t0 m)):=by rw[K7 y];unfold az;rw[aN (l₁:=dP t0),bf]
    rw[ex];exact run
   ·cases hG
  ·rename_i y;injection hG with q1 q2;injection q1 with q1;subst q1;subst q2;exact⟨0,.stop<|SE.eq (h1 e0 _)<|ak y⟩
def BI(hT:Vq T)(h1:∀e xs,SE (Sk r) X R cd ((decide<|cz T e=[43]\/cz T e=[45])) (((e:Nat):Int),xs) ((e:Int),xs))(h2:∀e xs m e',(cz T e=[43]\/cz T e=[45])->wH (g T n) T (e+1)=(some m,e')->dp T e+(n+1:Nat)=21->xs.length<=2*e->Tx (Sk r) X R body (.nx R) (((e:Nat):Int),xs) ((e':Int),xs++az (dP m++[cz T e])))(h3:∀e xs,(cz T e=[43]\/cz T e=[45])->(wH (g T n) T<|e+1).1=none->dp T e+(n+1:Nat)=21->xs.length<=2*e->mJ (Sk r) X R body C (((e:Nat):Int),xs)):∀(f:Nat)(t0:Tr)(e0:Nat)(xs:aQ)(a:Nat),U0 T a t0 e0->dp T a+(n+1:Nat)=21->xs.length<=2*a->(nh (g T n) T a0 f t0 e0).1=none->∃k,oW (Sk r) X cd body C k R ((e0:Int),xs++az (dP t0))
 |0,t0,e0,xs,a,A,hd,hx,hG=>by cases hG
 |f+1,t0,e0,xs,a,A,hd,hx,hG=>by
  unfold nh at hG;by_cases y:cz T e0=[43]\/cz T e0=[45]
  ·rw[ax y]at hG;have l1:=A.lt;have fa:=A.Vs;have ln:(xs++az (dP t0)).length<=2*e0:=by unfold az;rw[aq,aj];lia
   cases hF:wH (g T n) T (e0+1)with
   |mk o e'=>
    rw[hF]at hG;cases o with
    |none=>exact⟨0,.here (SE.eq (h1 e0 _)<|ap y)<|h3 e0 _ y (by rw[hF]) (by rw[A.VL];exact hd) ln⟩
    |some m=>
     have A':U0 T a (if cz T e0=[45]then .sub t0 m else .add t0 m) e':=vn (a0:=a0) (fN T n) 1 t0 e0 _ _ A (by unfold nh;rw[ax y,hF];rfl);obtain⟨k,run⟩:=BI hT h1 h2 h3 f (if cz T e0=[45]then .sub t0 m else .add t0 m) e' xs a A' hd hx hG;refine⟨k+1,.next (SE.eq (h1 e0 _)<|ap y) (h2 e0 _ m e' y hF (by rw[A.VL];exact hd) ln) ?_⟩;have ex:xs++az (dP t0)++az (dP m++[cz T e0])=xs++az (dP (if cz T e0=[45]then .sub t0 m else .add t0 m)):=by rw[K7 y];unfold az;rw[aN (l₁:=dP t0),bf]
     rw[ex];exact run
  ·rw[av y]at hG;cases hG
def uQ{n:Nat}(h:DefX P w K mg base k SI (ai eJ) X)(c1:Si X "read_factor" (CZ GF<|n+1))(c2:Si X "next_token" cM)(c3:Si X "take_token" cn):∀(r:jl),gH X.K r->∀ds s d s',CZ GP (n+1) r.toks ds s d s'->Tx (Sk r) X (.val (.adr r.p)::ds.map Sl.val++List.replicate (SI.length-(ds.length+1)) Sl.un) (aD eJ) (.rt d) s s'\/(d=.Sy/\∃ρ',Tx (Sk r) X (.val (.adr r.p)::ds.map Sl.val++List.replicate (SI.length-(ds.length+1)) Sl.un) (aD eJ) (.nx ρ') s s'):=by
 rintro r ok ds ⟨i,xs⟩ d s' ⟨T,a,tr,e,rfl,er,hT,hn,hd,hl,hG,rfl,rfl⟩;have t:=h.at';haveI:=h.S5;have ho:∀x∈r.toks,PyData.strOk x=true:=by rw[er];exact hT.so
 have Ux:i=(a:Int):=hn;subst Ux;have tm:=hT.many;refine .inr ⟨rfl,[.val<|.adr r.p],?_⟩;show Tx (Sk r) X [.val<|.adr r.p] _ _ _ _;have S2:wH (g T n) T a=(some tr,e):=hG;unfold wH at S2;split at S2;·rename_i t' e' hs;have A:=kc (fN T n) hs;refine cy (s1:=((e':Int),xs++az (dP t'))) (dj<|dC t ok c1 (bS (Se.z<|aa t 0)<|S3.z ah) ⟨T,a,t',e',rfl,er,hT,rfl,hd,hl,hs,rfl,rfl⟩)<|dU<|vp t<|Es (a0:=a) hT (λe xs=>sr t ok c2 ho rfl (by decide)<|by rw[er,im,KJ,ip]) (λe xs m e' y hF VR ln=>?_) T.length t' e' xs tr e a A (by lia) hd hl S2;have F:=kc (fN T n) hF;have fl:=F.lt;have fe:=F.le;have ff:=F.Vs;have yl:=iP (T:=T) (i:=e) (by rw[y];simp);refine cy (dj<|gB t ok c3 rfl)<|cy (s1:=((e':Int),xs++az (dP m))) (dj<|dC t ok c1 (bS (Se.z<|aa t 0)<|S3.z ah) ⟨T,e+1,m,e',rfl,er,hT,rfl,by rw[gb yl (by rw[y];simp)<|by rw[y];simp];exact VR,by show xs.length<=2*(e+1);lia,hF,rfl,rfl⟩)<|dU<|N3 (m7 t ok 0 rfl (Se.z Sd)<|Ab<|by show(xs++az (dP m)).length<=100000;unfold az;rw[aq,aj];lia) ?_;refine Ge rfl ?_;show xs++az (dP m)++[.str "*"]=xs++az (dP m++[[42]]);rw[KJ];unfold az;rw[aN,bf];rfl
 ·cases S2
def uR{n:Nat}(h:DefX P w K mg base k SI (ai eJ) X)(c1:Si X "read_factor" (CZ GF<|n+1))(x1:fQ X "read_factor" C (RZ GF<|n+1))(c2:Si X "next_token" cM)(c3:Si X "take_token" cn):∀(r:jl),gH X.K r->∀ds s,RZ GP (n+1) r.toks ds s->mJ (Sk r) X (.val (.adr r.p)::ds.map Sl.val++List.replicate (SI.length-(ds.length+1)) Sl.un) (aD eJ) C s:=by
 rintro r ok ds ⟨i,xs⟩ ⟨T,a,rfl,er,hT,hn,hd,hl,hG⟩;have t:=h.at';haveI:=h.S5;have ho:∀x∈r.toks,PyData.strOk x=true:=by rw[er];exact hT.so
 have Ux:i=(a:Int):=hn;subst Ux;have tm:=hT.many;show mJ (Sk r) X [.val<|.adr r.p] _ _ _;have S2:(wH (g T n) T a).1=none:=hG;unfold wH at S2;cases hs:kL (g T n) T a with
 |mk o e'=>
  rw[hs]at S2;cases o with
  |none=>exact bG<|gU<|iC t ok x1 (bS (Se.z<|aa t 0)<|S3.z ah) ⟨T,a,rfl,er,hT,rfl,hd,hl,by show(kL (g T n) T a).1=none;rw[hs]⟩
  |some t'=>
   have A:=kc (fN T n) hs;refine de t (s1:=((e':Int),xs++az (dP t'))) (dj<|dC t ok c1 (bS (Se.z<|aa t 0)<|S3.z ah) ⟨T,a,t',e',rfl,er,hT,rfl,hd,hl,hs,rfl,rfl⟩)<|bG<|vw t<|BP (a0:=a) hT (λe xs=>sr t ok c2 ho rfl (by decide)<|by rw[er,im,KJ,ip]) (λe xs m e' y hF VR ln=>?_) (λe xs y hF VR ln=>?_) T.length t' e' xs a A hd hl S2;·have F:=kc (fN T n) hF;have fl:=F.lt;have fe:=F.le;have ff:=F.Vs;have yl:=iP (T:=T) (i:=e) (by rw[y];simp);refine cy (dj<|gB t ok c3 rfl)<|cy (s1:=((e':Int),xs++az (dP m))) (dj<|dC t ok c1 (bS (Se.z<|aa t 0)<|S3.z ah) ⟨T,e+1,m,e',rfl,er,hT,rfl,by rw[gb yl (by rw[y];simp)<|by rw[y];simp];exact VR,by show xs.length<=2*(e+1);lia,hF,rfl,rfl⟩)<|dU<|N3 (m7 t ok 0 rfl (Se.z Sd)<|Ab<|by show(xs++az (dP m)).length<=100000;unfold az;rw[aq,aj];lia) ?_;refine Ge rfl ?_;show xs++az (dP m)++[.str "*"]=xs++az (dP m++[[42]]);rw[KJ];unfold az;rw[aN,bf];rfl
   ·have yl:=iP (T:=T) (i:=e) (by rw[y];simp);exact de t (dj<|gB t ok c3 rfl)<|bG<|gU<|iC t ok x1 (bS (Se.z<|aa t 0)<|S3.z ah) ⟨T,e+1,rfl,er,hT,rfl,by rw[gb yl (by rw[y];simp)<|by rw[y];simp];exact VR,by show xs.length<=2*(e+1);lia,hF⟩
def Hq(p q:Prop)[Decidable p][Decidable q]:(decide p||decide q)=decide (p\/q):=by by_cases h:p<;>by_cases h2:q<;>simp[h,h2]
def Cq{n:Nat}(h:DefX P w K mg base k To (ai hJ) X)(c1:Si X "read_product" (CZ GP<|n+1))(c2:Si X "next_token" cM)(c3:Si X "take_token" cn):∀(r:jl),gH X.K r->∀ds s d s',CZ g (n+1) r.toks ds s d s'->Tx (Sk r) X (.val (.adr r.p)::ds.map Sl.val++List.replicate (To.length-(ds.length+1)) Sl.un) (aD hJ) (.rt d) s s'\/(d=.Sy/\∃ρ',Tx (Sk r) X (.val (.adr r.p)::ds.map Sl.val++List.replicate (To.length-(ds.length+1)) Sl.un) (aD hJ) (.nx ρ') s s'):=by
 rintro r ok ds ⟨i,xs⟩ d s' ⟨T,a,tr,e,rfl,er,hT,hn,hd,hl,hG,rfl,rfl⟩;have t:=h.at';haveI:=h.S5;have ho:∀x∈r.toks,PyData.strOk x=true:=by rw[er];exact hT.so
 have Ux:i=(a:Int):=hn;subst Ux;have tm:=hT.many;refine .inr ⟨rfl,[.val<|.adr r.p,.un],?_⟩;show Tx (Sk r) X [.val<|.adr r.p,.un] _ _ _ _;have S2:HS (g T n) T a=(some tr,e):=hG;unfold HS at S2;split at S2;·rename_i t' e' hs;have A:=nB (fN T n) hs;refine cy (s1:=((e':Int),xs++az (dP t'))) (dj<|dC t ok c1 (bS (Se.z<|aa t 0)<|S3.z ah) ⟨T,a,t',e',rfl,er,hT,rfl,hd,hl,hs,rfl,rfl⟩)<|dU<|vp t<|Eg (a0:=a) hT (λe xs=>Lh t ok c2 ho rfl<|by rw[er,im,Ps,Ga,ip,ip,Hq]) (λe xs m e' y hF VR ln=>?_) T.length t' e' xs tr e a A (by lia) hd hl S2;have F:=nB (fN T n) hF;have fl:=F.lt;have fe:=F.le;have ff:=F.Vs;have yl:=iP (T:=T) (i:=e) (by rcases y with y |y<;>rw[y]<;>simp);refine Tx.weak (ρ1:=[.val<|.adr r.p,.val<|.str<|S<|cz T e]) (cy (lJ t 1<|Sz.eq (gB t ok c3 rfl)<|by rw[er,im])<|cy (s1:=((e':Int),xs++az (dP m))) (dj<|dC t ok c1 (bS (Se.z<|aa t 0)<|S3.z ah) ⟨T,e+1,m,e',rfl,er,hT,rfl,by rw[gb yl (by rcases y with y |y<;>rw[y]<;>simp)<|by rcases y with y |y<;>rw[y]<;>simp];exact VR,by show xs.length<=2*(e+1);lia,hF,rfl,rfl⟩)<|dU<|N3 (m7 t ok 0 rfl (Se.z<|aa t 1)<|Ab<|by show(xs++az (dP m)).length<=100000;unfold az;rw[aq,aj];lia) ?_)<|.keep<|.forget .nil;refine Ge rfl ?_;show xs++az (dP m)++[.str<|S<|cz T e]=xs++az (dP m++[cz T e]);unfold az;rw[aN,bf];rfl
 ·cases S2
def Cs{n:Nat}(h:DefX P w K mg base k To (ai hJ) X)(c1:Si X "read_product" (CZ GP<|n+1))(x1:fQ X "read_product" C (RZ GP<|n+1))(c2:Si X "next_token" cM)(c3:Si X "take_token" cn):∀(r:jl),gH X.K r->∀ds s,RZ g (n+1) r.toks ds s->mJ (Sk r) X (.val (.adr r.p)::ds.map Sl.val++List.replicate (To.length-(ds.length+1)) Sl.un) (aD hJ) C s:=by
 rintro r ok ds ⟨i,xs⟩ ⟨T,a,rfl,er,hT,hn,hd,hl,hG⟩;have t:=h.at';haveI:=h.S5;have ho:∀x∈r.toks,PyData.strOk x=true:=by rw[er];exact hT.so
 have Ux:i=(a:Int):=hn;subst Ux;have tm:=hT.many;show mJ (Sk r) X [.val<|.adr r.p,.un] _ _ _;have S2:(HS (g T n) T a).1=none:=hG;unfold HS at S2;cases hs:wH (g T n) T a with
 |mk o e'=>
  rw[hs]at S2;cases o with
  |none=>exact bG<|gU<|iC t ok x1 (bS (Se.z<|aa t 0)<|S3.z ah) ⟨T,a,rfl,er,hT,rfl,hd,hl,by show(wH (g T n) T a).1=none;rw[hs]⟩
  |some t'=>
   have A:=nB (fN T n) hs;refine de t (s1:=((e':Int),xs++az (dP t'))) (dj<|dC t ok c1 (bS (Se.z<|aa t 0)<|S3.z ah) ⟨T,a,t',e',rfl,er,hT,rfl,hd,hl,hs,rfl,rfl⟩)<|bG<|vw t<|BI (a0:=a) hT (λe xs=>Lh t ok c2 ho rfl<|by rw[er,im,Ps,Ga,ip,ip,Hq]) (λe xs m e' y hF VR ln=>?_) (λe xs y hF VR ln=>?_) T.length t' e' xs a A hd hl S2;·have F:=nB (fN T n) hF;have fl:=F.lt;have fe:=F.le;have ff:=F.Vs;have yl:=iP (T:=T) (i:=e) (by rcases y with y |y<;>rw[y]<;>simp);refine Tx.weak (ρ1:=[.val<|.adr r.p,.val<|.str<|S<|cz T e]) (cy (lJ t 1<|Sz.eq (gB t ok c3 rfl)<|by rw[er,im])<|cy (s1:=((e':Int),xs++az (dP m))) (dj<|dC t ok c1 (bS (Se.z<|aa t 0)<|S3.z ah) ⟨T,e+1,m,e',rfl,er,hT,rfl,by rw[gb yl (by rcases y with y |y<;>rw[y]<;>simp)<|by rcases y with y |y<;>rw[y]<;>simp];exact VR,by show xs.length<=2*(e+1);lia,hF,rfl,rfl⟩)<|dU<|N3 (m7 t ok 0 rfl (Se.z<|aa t 1)<|Ab<|by show(xs++az (dP m)).length<=100000;unfold az;rw[aq,aj];lia) ?_)<|.keep<|.forget .nil;refine Ge rfl ?_;show xs++az (dP m)++[.str<|S<|cz T e]=xs++az (dP m++[cz T e]);unfold az;rw[aN,bf];rfl
   ·have yl:=iP (T:=T) (i:=e) (by rcases y with y |y<;>rw[y]<;>simp);exact de t (lJ t 1<|Sz.eq (gB t ok c3 rfl)<|by rw[er,im])<|bG<|gU<|iC t ok x1 (bS (Se.z<|aa t 0)<|S3.z ah) ⟨T,e+1,rfl,er,hT,rfl,by rw[gb yl (by rcases y with y |y<;>rw[y]<;>simp)<|by rcases y with y |y<;>rw[y]<;>simp];exact VR,by show xs.length<=2*(e+1);lia,hF⟩
def Da(u:bZ):Bool:=!u.all (λc=>decide<|48<=c/\c<=57)||(decide (12<u.length)||(decide (u.head?=some 48)&& !decide (u=[48])))
def Ju{u:bZ}(hu:u≠[])(h:¬xk u):Da u=true:=by
 have hn:qO u=false:=by cases e:qO u with|false=>rfl|true=>exact absurd ((we u).mp e) h
 unfold qO at hn;unfold Da;have e0:u.isEmpty=false:=by simpa using hu
 rw[e0]at hn;generalize u.all (λc=>decide<|48<=c/\c<=57)=A at*;have e1:decide (12<u.length)= !decide (u.length<=12):=by by_cases q:u.length<=12<;>simp[q]<;>lia
 have e2:decide (u.head?≠some 48)= !decide (u.head?=some 48):=by by_cases q:u.head?=some 48<;>simp[q]
 rw[e1];rw[e2]at hn;generalize decide (u.length<=12)=B at*;generalize decide (u.head?=some 48)=E at*;generalize decide (u=[48])=G at*;revert hn;cases A<;>cases B<;>cases E<;>cases G<;>decide
def Ff(u:bZ):([PyData.str "x",.str "y",.str "not",.str "and",.str "or",.str "some",.str "all"].any λy=>PyData.eqv y<|.str<|S u)=decide (u∈IS):=by
 have e:[PyData.str "x",.str "y",.str "not",.str "and",.str "or",.str "some",.str "all"]=Sq (az IS):=by unfold az IS;simp only[aP,Gi,Sq,fS];rw[show("x":Str)=S [120]by decide,show("y":Str)=S [121]by decide,show("not":Str)=S [110,111,116]by decide,show("and":Str)=S [97,110,100]by decide,show("or":Str)=S [111,114]by decide,show("some":Str)=S [115,111,109,101]by decide,show("all":Str)=S [97,108,108]by decide]
 rw[e];exact jX IS u
def hZ(ds:aQ):Prop:=∃u:bZ,ds=[.str<|S u]/\u≠[]/\(∀c∈u,c<128)/\u.length<=20000/\¬UA u
def nZ:∀ds,hZ ds->ds.length=1:=by rintro _ ⟨a,rfl,_⟩;rfl
def nC(ds:aQ):Prop:=∃pre u post:bZ,ds=[.str<|S<|pre++u++post,.int pre.length]/\u≠[]/\(∀c∈u,al c=true)/\(∀c∈u,c<128)/\(∀c,post.head?=some c->al c=false)/\(pre++u++post).length<=20000/\¬UA u
def xG:∀ds,nC ds->ds.length=2:=by rintro _ ⟨a,b,c,rfl,_⟩;rfl
inductive LT:bZ->bZ->TK->Prop where
 |sp {cs:bZ}:LT [32] cs []
 |run {u cs:bZ}:UA u->(∀c,cs.head?=some c->al c=false)->LT u cs [u]
 |sign {c:Nat} {cs:bZ}:al c=false->c≠32->Rf c cs->LT [c] cs [[c]]
 |dbl {c:Nat} {cs:bZ}:(c=60\/c=62\/c=33)->LT [c,61] cs [[c,61]]
inductive Lx:bZ->TK->Prop where
 |nil:Lx [] []
 |turn {p cs:bZ} {ts us:TK}:LT p cs ts->Lx cs us->Lx (p++cs) (ts++us)
inductive Xj:bZ->Prop where
 |bad {u cs:bZ}:u≠[]->(∀c∈u,al c=true)->(∀c,cs.head?=some c->al c=false)->¬UA u->Xj (u++cs)
 |turn {p cs:bZ} {ts:TK}:LT p cs ts->Xj cs->Xj (p++cs)
def LT.ne(h:LT p cs ts):p≠[]/\ts.length<=p.length/\(∀u∈ts,u=p):=by
 cases h with
 |sp=>exact⟨by simp,by simp,λu hu=>nomatch hu⟩|run h _=>exact⟨h.ne,by have:=List.length_pos_iff.mpr h.ne;simp;lia,λu hu=>by simpa using hu⟩
 |sign=>exact⟨by simp,by simp,λu hu=>by simpa using hu⟩|dbl=>exact⟨by simp,by simp,λu hu=>by simpa using hu⟩
def Lx.len(h:Lx cs ts):ts.length<=cs.length:=by induction h with|nil=>simp|turn l _ ih=>have:=l.ne.2.1;simp;lia
def Jk(cs:bZ):∃u r,cs=u++r/\(∀c∈u,al c=true)/\(∀c,r.head?=some c->al c=false):=by
 induction cs with
 |nil=>exact⟨[],[],rfl,(λc h=>nomatch h),λc h=>nomatch h⟩
 |cons c cs ih=>
  by_cases h:al c=true
  ·obtain⟨u,r,e,h1,h2⟩:=ih;refine⟨c::u,r,by rw[e];rfl,λd hd=>?_,h2⟩;rcases List.mem_cons.mp hd with rfl |hd;·exact h
   ·exact h1 d hd
  ·exact⟨[],c::cs,rfl,(λc h=>nomatch h),λd hd=>by cases hd;simpa using h⟩
def Lj:∀(n:Nat)(cs:bZ),cs.length<=n->(∀c∈cs,c≠33)->(∃ts,Lx cs ts)\/Xj cs
 |_,[],_,_=>.inl ⟨[],.nil⟩|0,c::cs,h,_=>by simp at h
 |n+1,c::cs,h,hc=>by
  have go:∀{p r:bZ}{ts:TK},c::cs=p++r->LT p r ts->(∃ts,Lx (c::cs) ts)\/Xj (c::cs):=λ{p r ts}e l=>by
   have hp:=List.length_pos_iff.mpr l.ne.1;have hl:=aV List.length e;rw[aq]at hl;rcases Lj n r (by lia) (λx hx=>hc x<|by rw[e];exact aB _ hx)with⟨us,q⟩ |q
   ·exact .inl ⟨_,by rw[e];exact .turn l q⟩
   ·exact .inr<|by rw[e];exact .turn l q
  by_cases ha:al c=true
  ·obtain⟨u,r,e,h1,h2⟩:=Jk cs;have al1:∀d∈c::u,al d=true:=λd hd=>by
    rcases List.mem_cons.mp hd with rfl |hd;·exact ha
    ·exact h1 d hd
   by_cases hr:UA (c::u);·exact go (p:=c::u) (r:=r) (by rw[e];rfl)<|.run hr h2
   ·exact .inr<|by rw[e];exact .bad (u:=c::u) (by simp) al1 h2 hr
  ·have ha':al c=false:=by simpa using ha
   by_cases h0:c=32;·subst h0;exact go (p:=[32]) (r:=cs) rfl .sp
   ·have n33:=hc c (by simp);by_cases hd:(c=60\/c=62)/\cs.head?=some 61
    ·obtain⟨r,er⟩:∃r,cs=61::r:=by
      cases cs with
      |nil=>cases hd.2
      |cons x r=>have:=hd.2;simp at this;subst this;exact⟨r,rfl⟩
     exact go (p:=[c,61]) (r:=r) (by rw[er];rfl)<|.dbl<|by rcases hd.1 with z |z;exact .inl z;exact .inr<|.inl z
    ·refine go (p:=[c]) (r:=cs) rfl<|.sign ha' h0 ?_;by_cases q:c=60\/c=62;·exact .inr ⟨q,λz=>hd ⟨q,z⟩⟩
     ·exact .inl ⟨λz=>q<|.inl z,λz=>q<|.inr z,n33⟩
def lG(ds:aQ)(d:D):Prop:=∃(cs:bZ)(ts:TK),ds=[.str<|S cs]/\Lx cs ts/\(∀c∈cs,c<128)/\cs.length<=20000/\d=.lst (az ts)
def xH:∀ds d,lG ds d->ds.length=1:=by rintro _ _ ⟨a,b,rfl,_⟩;rfl
def oX(ds:aQ):Prop:=∃cs:bZ,ds=[.str<|S cs]/\Xj cs/\(∀c∈cs,c<128)/\cs.length<=20000
def wo:∀ds,oX ds->ds.length=1:=by rintro _ ⟨a,rfl,_⟩;rfl
def uZ(T1:List Stmt)(i:Nat):Expr×List Stmt:=match T1[i]? with|some (.While c b _ _)=>(c,b)|_=>(.Constant .none 0 ⟨0,0,0,0⟩,[])
def qc(h:DefX P w K mg base k Sv (ai c8) X)(Vk:mg "all"=none)(Sm:mg "len"=none)(gW:Rt mg K "WORDS" DY)(gF:∃tk,mg "FIGURES"=some (.str VN tk))(O:OwnCls "NoText" C vB vN mg base):∀ds,hZ ds->mJ VI X (ds.map Sl.val++List.replicate (Sv.length-ds.length) Sl.un) (aD c8) C ():=by
 rintro ds ⟨u,rfl,UQ,lt,hl,hr⟩;have t:=h.at';have O':OwnCls "NoText" C vB vN X.mg X.base:=by rw[h.Up,h.Uk];exact O
 obtain⟨l,gm,gk⟩:=gW;have X3:X.mg "WORDS"=some (.ref l):=by rw[h.Up];exact gm
 have XE:=gk;rw[<-h.k']at XE;have XF:∃tk,X.mg "FIGURES"=some (.str VN tk):=by rw[h.Up];exact gF
 have b1:=h.bt Vk;have b2:=h.bt Sm;have hz:(S u).length<=sizeLine:=TN hl;have cw:PyData.canLayAll0 [PyData.str "x",.str "y",.str "not",.str "and",.str "or",.str "some",.str "all"]=true:=by decide
 have ok:=dA lt;have rb:=Ju UQ λz=>hr<|.inl z;show mJ VI X [.val<|.str<|S u] _ _ _;refine de t (SQ.z<|cB (wP t (aa t 0).p (oQ t X3 XE) (dN ok) (dk _) cw<|(Ff u).trans (ak λz=>hr<|.inr z)) bQ)<|bG<|Vw.z<|By t ?_<|mP<|jW t O' Sd;obtain⟨c,cs,rfl⟩:∃c cs,u=c::cs:=by cases u with|nil=>exact absurd rfl UQ|cons c cs=>exact⟨c,cs,rfl⟩
 unfold Da at rb;refine Sg.eq (Dz (nu<|jJ<|AI (bs:=(c::cs).map λx=>decide<|48<=x/\x<=57) t b1<|Ss.toQ<|Ss.eq (ka (rs:=(S<|c::cs).cps.toList.map λx=>D.bl<|decide<|48<=x/\x<=57) t ["run","sign"] (IV<|by decide) (DC (aa t 0)<|IH lt) (by unfold IT;rw[aj,eD];exact bH hl<|by decide) λX' cx=>?_) ?_) (λ_=>fg (dB t b2 (aa t 0) hz) af) λ_ _=>eQ (cf t (c9 (c:=c) (aa t 0) af hz<|by rw[eD];exact dJ (j:=0) rfl) Sd (dA (cs:=[c]) λx hx=>lt x<|by simp at hx;simp[hx])) λz=>qW t (aa t 0).p Sd.p (fV ok) (fV<|by decide) (r:=!decide (c::cs=[48])) ?_) ?_;·exact Tf.gen (λc=>D.str ⟨#[c]⟩) _ (λx=>[.val<|.str<|S<|c::cs,.val<|.str ⟨#[x]⟩]) _ _ (λx hx=>df cx.at' 1) (λx hx y hy=>df cx.at' 1) λx hx=>AF (aa cx.at' 1 rfl) (oP cx.at'<|by rw[cx.Up];exact XF)<|by rw[eD]at hx;exact wJ x<|lt x hx
 ·rw[eD,cj];rfl
 ·show(!(S (c::cs)==("0":Str)))=_;rw[show("0":Str)=S [48]by decide];by_cases q:c::cs=[48];·rw[q];simp
  ·rw[ak q,br.mpr λz=>q<|fP z]
 ·rw[<-rb];have ea:((c::cs).map λx=>decide<|48<=x/\x<=57).all id=(c::cs).all λx=>decide (48<=x/\x<=57):=by rw[Gj];rfl
  rw[ea,cq];congr 2;·simp only[bI];lia
  ·congr 1;rw[show(⟨#[c]⟩:Str)=S [c]from rfl,show("0":Str)=S [48]by decide,ip];simp
def Cr(h:DefX P w K mg base k TH (ai jf) X)(x1:jB X "refuse_wrong_run" C hZ)(c2:EV.Callee X "end_of_run" ke):∀ds,nC ds->mJ VI X (ds.map Sl.val++List.replicate (TH.length-ds.length) Sl.un) (aD jf) C ():=by
 rintro ds ⟨pre,u,post,rfl,UQ,hu,lt,hp,hz,hr⟩;have t:=h.at';haveI:=h.S5;show mJ VI X [.val<|.str<|S<|pre++u++post,.val<|.int pre.length,.un] _ _ _;obtain⟨c,cs,rfl⟩:∃c cs,u=c::cs:=by cases u with|nil=>exact absurd rfl UQ|cons c cs=>exact⟨c,cs,rfl⟩
 refine bG<|tq t (Sg.z<|Sg.eq (jJ<|jk<|c9 (c:=c) (aa t 0) (aa t 1) (TN hz) ?_)<|by rw[show(⟨#[c]⟩:Str)=S [c]from rfl,Gb];exact hu c<|by simp)<|de t (SQ.z<|aX t 2<|Se.eq (nt (aa t 0) (aa t 1) (aG t c2 (ac (aa t 0)<|ac (aa t 1) ah) ⟨pre,c::cs,post,rfl,hu,hp,hz,rfl⟩)<|TN hz)<|by rw[LL])<|bG<|Vw.z<|CY<|qG t x1 (ac (aa t 2) ah) ⟨_,rfl,by simp,lt,by rw[aq,aq]at hz;lia,hr⟩;have:=q9 (pre:=pre) (post:=cs++post) (c:=c);simpa using this
def rK{cs:bZ}(t:At X SD (ai bU))(b1:mf X (ai bU) "len" (.builtin "len"))(hz:cs.length<=20000)(pre:bZ)(done:TK):Sg X [.val<|.str<|S cs,.own<|az done,.val<|.int pre.length] (uZ (aD bU) 1).1 (decide<|pre.length<cs.length):=Sg.eq (fZ (aa t 2)<|dB t b1 (aa t 0)<|TN hz)<|by rw[cq];simp
def BA{pre:bZ}{done:TK}[Vh X](t:At X SD (ai bU))(b1:mf X (ai bU) "len" (.builtin "len"))(c1:EV.Callee X "token_at" ib)(l:LT p UL ts)(ha:∀c∈pre++(p++UL),c<128)(hz:(pre++(p++UL)).length<=20000)(hd:done.length<=20000):Sf X [.val<|.str<|S<|pre++(p++UL),.own<|az done,.val<|.int pre.length] (uZ (aD bU) 1).2 (.nx [.val<|.str<|S<|pre++(p++UL),.own<|az<|done++ts,.val<|.int (pre++p).length]):=by
 cases l with
 |sp=>refine Sf.eq (aw<|dD (Sg.eq (cf t (c9 (c:=32) (aa t 0) (aa t 2) (TN hz) q9) Sd<|by decide)<|by decide)<|aw<|lN t 2 (v:=((pre++[32]).length:Nat)) rfl af<|by simp) ?_;rw[bC];rfl
 |run hu hp=>
  obtain⟨c,u',rfl⟩:∃c u',p=c::u':=by cases p with|nil=>exact absurd rfl hu.ne|cons c cs=>exact⟨c,cs,rfl⟩
  have hc:=hu.al c (by simp);have VZ:S [c]≠S [32]:=λe=>by have:=fP e;cases this;rw[LJ]at hc;cases hc
  have W2:kS (S<|pre++((c::u')++UL)).cps.toList (pre.length:Int)=some c:=q9 (pre:=pre) (post:=u'++UL) (c:=c);refine aw<|cB (Sg.eq (cf t (c9 (c:=c) (aa t 0) (aa t 2) (TN hz) W2) Sd (dA (cs:=[c]) λx hx=>hu.lt x<|by simp at hx;simp[hx]))<|by rw[aK,show(" ":Str)=S [32]by decide];exact VZ) ?_;refine au (mz t 1 rfl (aG t c1 (ac (aa t 0)<|ac (aa t 2) ah) ⟨pre,UL,.inl ⟨c::u',by rw[bf],hu,hp,by rw[bf];exact hz,rfl⟩⟩)<|by unfold az;rw[aj];exact bH hd<|by decide)<|aw<|SQ.eq (lN t 2 (v:=((pre++(c::u')).length:Nat)) rfl (dB t b1 (aY (hV t 1 rfl) (qU af)<|Bl<|.inl rfl)<|TN<|ao hu.len<|by decide)<|by rw[cq];simp) ?_;unfold az;simp
 |@sign c _ hc h0 hsg=>
  have VZ:S [c]≠S [32]:=λe=>by have:=fP e;cases this;exact h0 rfl
  have S1:∀x∈c::UL,x<128:=λx hx=>ha x<|aB _ hx;refine aw<|cB (Sg.eq (cf t (c9 (c:=c) (aa t 0) (aa t 2) (TN hz) q9) Sd (dA (cs:=[c]) λx hx=>S1 x<|by simp at hx;simp[hx]))<|by rw[aK,show(" ":Str)=S [32]by decide];exact VZ) ?_;refine au (mz t 1 rfl (aG t c1 (ac (aa t 0)<|ac (aa t 2) ah) ⟨pre,UL,.inr<|.inl ⟨c,rfl,hc,S1,hsg,hz,rfl⟩⟩)<|by unfold az;rw[aj];exact bH hd<|by decide)<|aw<|SQ.eq (lN t 2 (v:=((pre++[c]).length:Nat)) rfl (dB t b1 (aY (hV t 1 rfl) (qU af)<|Bl<|.inl rfl)<|TN<|by simp)<|by rw[cq];simp) ?_;unfold az;simp
 |@dbl c _ hc3=>
  have VZ:S [c]≠S [32]:=λe=>by have:=fP e;cases this;lia
  have S1:∀x∈c::61::UL,x<128:=λx hx=>ha x<|aB _ hx;refine aw<|cB (Sg.eq (cf t (c9 (c:=c) (aa t 0) (aa t 2) (TN hz) q9) Sd (dA (cs:=[c]) λx hx=>S1 x<|by simp at hx;simp[hx]))<|by rw[aK,show(" ":Str)=S [32]by decide];exact VZ) ?_;refine au (mz t 1 rfl (aG t c1 (ac (aa t 0)<|ac (aa t 2) ah) ⟨pre,UL,.inr<|.inr ⟨c,rfl,hc3,hz,rfl⟩⟩)<|by unfold az;rw[aj];exact bH hd<|by decide)<|aw<|SQ.eq (lN t 2 (v:=((pre++[c,61]).length:Nat)) rfl (dB t b1 (aY (hV t 1 rfl) (qU af)<|Bl<|.inl rfl)<|TN<|by simp)<|by rw[cq];simp) ?_;unfold az;simp
def Ji{cs:bZ}{bJ:bZ}[Vh X](t:At X SD (ai bU))(b1:mf X (ai bU) "len" (.builtin "len"))(c1:EV.Callee X "token_at" ib)(ha:∀c∈cs,c<128)(hz:cs.length<=20000)(hl:Lx bJ us):∀(pre:bZ)(done:TK),cs=pre++bJ->done.length<=pre.length->∃m,T3 X (uZ (aD bU) 1).1 (uZ (aD bU) 1).2 m [.val<|.str<|S cs,.own<|az done,.val<|.int pre.length] (.nx [.val<|.str<|S cs,.own<|az<|done++us,.val<|.int cs.length]):=by induction hl with|nil=>intro pre done e hd;rw[bC]at e;subst e;exact⟨0,by rw[bC];exact .stop<|Sg.eq (rK t b1 hz cs done)<|ak<|by lia⟩|@turn p r ts us l _ ih=>intro pre done e hd;have lp:=List.length_pos_iff.mpr l.ne.1;have lt2:=l.ne.2.1;subst e;obtain⟨m,run⟩:=ih (pre++p) (done++ts) (by rw[bf]) (by simp;lia);rw[bf]at run;exact⟨m+1,.step (Sg.eq (rK t b1 hz pre done)<|ap<|by simp;lia) (BA t b1 c1 l ha hz<|by rw[aq]at hz;lia) run⟩
def Cw(h:DefX P w K mg base k SD (ai bU) X)(Sm:mg "len"=none)(c1:EV.Callee X "token_at" ib):Go X SD bU lG:=by rintro ds r ⟨cs,ts,rfl,hl,ha,hz,rfl⟩;have t:=h.at';haveI:=h.S5;have b1:=h.bt Sm;show Sf X [.val<|.str<|S cs,.un,.un] _ _;exact au (Eh t 1 2 (us:=az []) (bE ah) af<|by decide)<|au (fE t<|Ji t b1 c1 ha hz hl [] [] rfl<|ar _)<|eE 1 rfl<|aw<|bg<|aa t 1
def GG{cs:bZ}{bJ:bZ}[Vh X](t:At X SD (ai bU))(b1:mf X (ai bU) "len" (.builtin "len"))(c1:EV.Callee X "token_at" ib)(x1:jB X "token_at" C nC)(ha:∀c∈cs,c<128)(hz:cs.length<=20000)(hl:Xj bJ):∀(pre:bZ)(done:TK),cs=pre++bJ->done.length<=pre.length->∃m,oW VI X (uZ (aD bU) 1).1 (uZ (aD bU) 1).2 C m [.val<|.str<|S cs,.own<|az done,.val<|.int pre.length] ():=by
 induction hl with
 |@bad u r UQ hu hb hr=>
  intro pre done e hd;subst e;have lp:=List.length_pos_iff.mpr UQ;obtain⟨c,u',rfl⟩:∃c u',u=c::u':=by cases u with|nil=>exact absurd rfl UQ|cons c cs=>exact⟨c,cs,rfl⟩
  have hc:=hu c (by simp);have S1:∀x∈c::u',x<128:=λx hx=>ha x<|aB _<|eY _ hx;have VZ:S [c]≠S [32]:=λe=>by have:=fP e;cases this;rw[LJ]at hc;cases hc
  have W2:kS (S<|pre++((c::u')++r)).cps.toList (pre.length:Int)=some c:=q9 (pre:=pre) (post:=u'++r) (c:=c);refine⟨0,.here (Sg.z<|Sg.eq (rK t b1 hz pre done)<|ap<|by simp)<|bG<|CV t (Sg.z<|Sg.eq (cf t (c9 (c:=c) (aa t 0) (aa t 2) (TN hz) W2) Sd (dA (cs:=[c]) λx hx=>S1 x<|by simp at hx;simp[hx]))<|by rw[aK,show(" ":Str)=S [32]by decide];exact VZ)<|bG<|gU<|yk t (Ho t 1 rfl)<|YV.z<|qG t x1 (ac (aa t 0)<|ac (aa t 2) ah) ⟨pre,c::u',r,by rw[bf],by simp,hu,S1,hb,by rw[bf];exact hz,hr⟩⟩
 |@turn p r ts l _ ih=>intro pre done e hd;have lp:=List.length_pos_iff.mpr l.ne.1;have lt2:=l.ne.2.1;subst e;obtain⟨m,run⟩:=ih (pre++p) (done++ts) (by rw[bf]) (by simp;lia);exact⟨m+1,.next (Sg.z<|Sg.eq (rK t b1 hz pre done)<|ap<|by simp;lia) (Sf.z<|BA t b1 c1 l ha hz<|by rw[aq]at hz;lia) run⟩
def AZ(h:DefX P w K mg base k SD (ai bU) X)(Sm:mg "len"=none)(c1:EV.Callee X "token_at" ib)(x1:jB X "token_at" C nC):∀ds,oX ds->mJ VI X (ds.map Sl.val++List.replicate (SD.length-ds.length) Sl.un) (aD bU) C ():=by rintro ds ⟨cs,rfl,hl,ha,hz⟩;have t:=h.at';haveI:=h.S5;have b1:=h.bt Sm;show mJ VI X [.val<|.str<|S cs,.un,.un] _ _ _;exact de t (SQ.z<|Eh t 1 2 (us:=az []) (bE ah) af<|by decide)<|bG<|vw t<|GG t b1 c1 x1 ha hz hl [] [] rfl<|ar _
section
variable {ds:aQ}
def Cf(t:At X N sc){C:aQ->D->Prop}(h:EV.Callee X x C)(ha:IM X q ρ (e::es) ds xs UH)(hC:C ds d)(hg:uY sc x:=by rfl)(T7:qF x:=by rfl):Uc X q ρ (.Call (.Name x p) (e::es) [] pos) d xs UH:=λB F0 H σ Q us l k w=>.mk λpins s I=>by obtain⟨f,fd,ps,kk,F,Wr,hm,hk,hb⟩:=h;have pz:ia ja X E0:=qx;refine j8 F Wr (dS t hg) hm hk hb .nil pz pZ T7 (ha.1.1 _ _) (VG.any ha.1.2) pins s σ H Q I (ha.2 B F0 H σ _ us l k λvs F1 H1 u1 x1 r1 rv=>?_);have k1:=k.Vc l x1;refine⟨F1,ds,d,k1.sub,by rw[bC];exact rv,hC,λv F2 H2 x2 Xt=>w v F2 H2 u1 (x1.tM (l.ff k)<|x2.toM<|k1.sh _ _ aI) (r1.mono x2.sf) Xt⟩
end
def YU.z{S:LS}{s:S.ds}(h:YU X ρ T1 C ρ'):mJ S X ρ T1 C s:=λE hp B F H σ c l k pins w I hE=>h E hp B F H σ k pins w I λv w' ⟨σ1,H1,s1,F',H',i,o,sf,th⟩=>hE v w' ⟨σ1,H1,s1,ρ',F',H',c,i,by rw[Sx.same l.st];exact o,sf,th⟩
def Ub.ix{xs:aQ}(R:Nat->cA)(n:Nat)(h:∀i d,i<n->xs[i]?=some d->∃ρ1,Vi X (R i) tg d ρ1/\Sf X ρ1 body (.nx<|R<|i+1))(hn:∃d ρ1,xs[n]?=some d/\Vi X (R n) tg d ρ1/\DW X true ρ1 body C ρ'):∀(k i:Nat),i+k=n->Ub X tg body C ρ' (xs.drop i) (R i)
 |0,i,e=>by
  have e':i=n:=by lia
  subst e';obtain⟨d,ρ1,e2,g,b⟩:=hn;obtain⟨hj,eu⟩:=List.getElem?_eq_some_iff.mp e2;rw[jO hj,eu];exact .here g b
 |k+1,i,e=>by
  obtain⟨d,ρ1,e2,_⟩:=hn;have hl:=(List.getElem?_eq_some_iff.mp e2).1;have hi:i<xs.length:=by lia
  obtain⟨ρ2,g,b⟩:=h i xs[i] (by lia)<|List.getElem?_eq_getElem hi;rw[jO hi];exact .next g b (Ub.ix R n h ⟨d,ρ1,e2,‹_›⟩ k (i+1)<|by lia)
def lU(ds:aQ):Prop:=∃(ts:List bZ)(o c:bZ),ds=[.lst<|az ts,.str<|S o,.str<|S c]/\(∀u∈ts,∀x∈u,x<128)/\(∀x∈o,x<128)/\(∀x∈c,x<128)/\¬(∀i,i<=ts.length->iV o c (ts.take i)<=20)
def tQ:∀ds,lU ds->ds.length=3:=by rintro _ ⟨a,b,c,rfl,_⟩;rfl
def OZ{p:Nat->Prop}:∀(n:Nat),p n->∃m,p m/\∀i,i<m->¬p i:=λn=>by
 induction n using Nat.strongRecOn with
 |_ n ih=>
  intro h;by_cases q:∃i,i<n/\p i;·obtain⟨i,hi,hp⟩:=q;exact ih i hi hp
  ·exact⟨n,h,λi hi hp=>q ⟨i,hi,hp⟩⟩
def pp(ts:List bZ):Prop:=(∀i,i<=ts.length->iV [40] [41] (ts.take i)<=20)/\∀i,i<=ts.length->iV [91] [93] (ts.take i)<=20
def Lx.w(h:Lx cs ts):(∀c∈cs,c<128)->∀u∈ts,(∀c∈u,c<128)/\DH u=qO u/\u.length<=20:=by
 induction h with
 |nil=>intro _ u hu;exact nomatch hu
 |@turn p cs ts us l _ ih=>
  intro ha u hu;rcases List.mem_append.mp hu with hu |hu
  ·have e:=l.ne.2.2 u hu;subst e;refine⟨λc hc=>ha c<|eY _ hc,?_⟩;have nd:∀{c:Nat}{q:bZ},c<128->al c=false->DH (c::q)=qO (c::q):=λ{c q}h1 h2=>by
    have z:¬(48<=c/\c<=57):=λz=>by
     have:∀c,48<=c->c<=57->al c=true:=by
      intro c a b;have:c=48\/c=49\/c=50\/c=51\/c=52\/c=53\/c=54\/c=55\/c=56\/c=57:=by lia
      rcases this with rfl |rfl |rfl |rfl |rfl |rfl |rfl |rfl |rfl |rfl<;>decide
     rw[this c z.1 z.2]at h2;cases h2
    unfold DH qO;simp[z]
   cases l with
   |sp=>exact nomatch hu
   |run hr _=>
    refine⟨?_,ao hr.len<|by decide⟩;rcases hr with hr |hr
    ·rw[(we u).mpr hr];obtain⟨c,u',rfl⟩:∃c u',u=c::u':=by cases u with|nil=>exact absurd rfl hr.1|cons c cs=>exact⟨c,cs,rfl⟩
     exact ap<|hr.2.1 c<|by simp
    ·have:∀u∈IS,DH u=qO u:=by decide
     exact this u hr
   |@sign c _ hc _ _=>exact⟨nd (ha c<|by simp) hc,by simp⟩|@dbl c _ hc=>exact⟨nd (ha c<|by simp) (by rcases hc with rfl |rfl |rfl<;>decide),by simp⟩
  ·exact ih (λc hc=>ha c<|aB _ hc) u hu
def Lx.ok(h:Lx cs ts)(ha:∀c∈cs,c<128)(hl:cs.length<=20000)(hd:pp ts):Vq ts:=⟨λu hu=>(h.w ha u hu).1,λu hu=>(h.w ha u hu).2.1,λu hu=>(h.w ha u hu).2.2,ao h.len hl,hd.1⟩
def lH(ds:aQ)(toks:cH):Prop:=∃(cs:bZ)(ts:List bZ)(m:Nat),ds=[.str<|S cs,.int m]/\Lx cs ts/\(∀c∈cs,c<128)/\cs.length<=m/\m<=2000/\pp ts/\toks=sm ts
def xJ:∀ds ts,lH ds ts->ds.length=2:=by rintro _ _ ⟨a,b,c,rfl,_⟩;rfl
def Pv(d:D)(m:Nat):Prop:=(Pk d=true/\HN d=false)\/∃cs:bZ,d=.str (S cs)/\(∀c∈cs,c<128)/\cs.length<=20000/\(m<cs.length\/Xj cs\/∃ts,Lx cs ts/\¬pp ts)
def oY(ds:aQ):Prop:=∃(d:D)(m:Nat),ds=[d,.int m]/\m<=2000/\Pv d m
def wp:∀ds,oY ds->ds.length=2:=by rintro _ ⟨a,b,rfl,_⟩;rfl
def w8(h:DefX P w K mg base k SM (ai fj) X)(gM:∃tk,mg "MOST_OPEN"=some (.int 20 tk))(O:OwnCls "NoText" C vB vN mg base):∀ds,lU ds->mJ VI X (ds.map Sl.val++List.replicate (SM.length-ds.length) Sl.un) (aD fj) C ():=by
 rintro ds ⟨ts,o,c,rfl,ha,ho,hc,hd⟩;have t:=h.at';haveI:=h.S5;have O':OwnCls "NoText" C vB vN X.mg X.base:=by rw[h.Up,h.Uk];exact O
 have Wl:∃tk,X.mg "MOST_OPEN"=some (.int 20 tk):=by rw[h.Up];exact gM
 obtain⟨m,hm,ZC⟩:∃m,(m<=ts.length/\20<iV o c (ts.take m))/\∀i,i<m->¬(i<=ts.length/\20<iV o c (ts.take i)):=by
  obtain⟨m,q⟩:=Classical.not_forall.mp hd;have q2:m<=ts.length/\20<iV o c (ts.take m):=by
   by_cases z:m<=ts.length;·exact⟨z,by by_cases z2:20<iV o c (ts.take m);exact z2;exact absurd (λ_=>by lia) q⟩
   ·exact absurd (λy=>absurd y z) q
  exact OZ m q2
 have hm0:m≠0:=λe=>by subst e;have:=hm.2;rw[List.take_zero]at this;exact absurd this<|by show¬(20<(0:Int));decide
 obtain⟨n,rfl⟩:∃n,m=n+1:=⟨m-1,by lia⟩;have step:∀(j:Nat)(d:D),(az ts)[j]?=some d->∃u:bZ,d=.str (S u)/\(∀x∈u,x<128)/\j<ts.length/\iV o c (ts.take<|j+1)=iV o c (ts.take j)+(b2i (decide<|S u=S o)-b2i (decide<|S u=S c)):=λj d e=>by
  unfold az at e;rw[List.getElem?_map]at e;cases e2:ts[j]? with
  |none=>rw[e2]at e;cases e
  |some u=>rw[e2]at e;cases e;exact⟨u,rfl,ha u<|List.mem_of_getElem? e2,(List.getElem?_eq_some_iff.mp e2).1,by rw[jr,e2];exact pU o c u _⟩
 show mJ VI X [.val<|.lst<|az ts,.val<|.str<|S o,.val<|.str<|S c,.un,.un] _ _ _;have S1:n<(az ts).length:=by unfold az;rw[aj];lia
 obtain⟨u0,e0,hu0,hj0,et0⟩:=step n (az ts)[n]<|List.getElem?_eq_getElem S1;refine YU.z (ρ':=[.val<|.lst<|az ts,.val<|.str<|S o,.val<|.str<|S c,.val<|.int<|iV o c<|ts.take<|n+1,.val (az ts)[n]])<|Gr t (aX t 3 af)<|Gs<|LX t (qZ<|aa t 0)<|Ub.ix (λi=>[.val<|.lst<|az ts,.val<|.str<|S o,.val<|.str<|S c,.val<|.int<|iV o c<|ts.take i,.un]) n (λj d hj e=>?_) ⟨_,_,List.getElem?_eq_getElem S1,bv t 4,?_⟩ n 0 (by lia);·obtain⟨u,rfl,hu,hj2,et⟩:=step j d e;refine⟨_,bv t 4,Sf.weak (au (lN t 3 (v:=iV o c<|ts.take<|j+1) rfl (AC (oR t (aa t 4) (aa t 1) (dA hu)<|dA ho)<|oR t (aa t 4) (aa t 2) (dA hu)<|dA hc) et)<|aw<|cB (Sg.eq (fg (aa t 3)<|iQ t Wl) ?_) bQ)<|.keep<|.keep<|.keep<|.keep<|.forget .nil⟩;have:=ZC (j+1) (by lia);rw[aK];exactλz=>this ⟨by lia,by lia⟩
 ·rw[e0];refine Je t (lN t 3 (v:=iV o c<|ts.take<|n+1) rfl (AC (oR t (aa t 4) (aa t 1) (dA hu0)<|dA ho)<|oR t (aa t 4) (aa t 2) (dA hu0)<|dA hc) et0)<|mP<|By t (Sg.eq (fg (aa t 3)<|iQ t Wl)<|ap<|by have:=hm.2;lia)<|mP<|jW t O' Sd
def A8(h:DefX P w K mg base k Tt (ai ii) X)(Tg:mg "isinstance"=none)(US:mg "str"=none)(Sm:mg "len"=none)(c1:EV.Callee X "tokens_of" lG)(c2:EV.Callee X "refuse_deep" jE)(M:Rm X "Reader" C):∀ds ts,lH ds ts->zq X (ds.map Sl.val++List.replicate (Tt.length-ds.length) Sl.un) (aD ii) ts:=by
 rintro ds r ⟨cs,ts,m,rfl,hl,ha,hm,hz,hd,rfl⟩;have t:=h.at';haveI:=h.S5;have b1:=h.bt Tg;have b2:=h.bt US;have b3:=h.bt Sm;have ht:∀u∈ts,∀c∈u,c<128:=λu hu=>(hl.w ha u hu).1;show zq X [.val<|.str<|S cs,.val<|.int m,.un] _ _;refine sF (cB (Sg.eq (fG (u:=false) (Sg.eq (nu<|jJ<|sC t b1 b2 (aa t 0) rfl) rfl) λ_=>fg (dB t b3 (aa t 0)<|TN<|by lia)<|aa t 1) ?_) bQ) ?_;·rw[cq,iz,aK];lia
 refine sF (aX t 2<|aG t c1 (ac (aa t 0) ah) ⟨cs,ts,rfl,hl,ha,by lia,rfl⟩) ?_;refine sF (Ae<|aG t c2 (ac (aa t 2)<|ac Sd<|ac Sd ah) ⟨ts,[40],[41],rfl,ht,by simp,by simp,hd.1,rfl⟩) ?_;refine sF (Ae<|aG t c2 (ac (aa t 2)<|ac Sd<|ac Sd ah) ⟨ts,[91],[93],rfl,ht,by simp,by simp,hd.2,rfl⟩) ?_;refine Ig t M<|Se.eq (aa t 2) ?_;unfold az sm;rw[cj];rfl
def A0(h:DefX P w K mg base k Tt (ai ii) X)(Tg:mg "isinstance"=none)(US:mg "str"=none)(Sm:mg "len"=none)(c1:EV.Callee X "tokens_of" lG)(x1:jB X "tokens_of" C oX)(c2:EV.Callee X "refuse_deep" jE)(x2:jB X "refuse_deep" C lU)(O:OwnCls "NoText" C vB vN mg base):∀ds,oY ds->mJ VI X (ds.map Sl.val++List.replicate (Tt.length-ds.length) Sl.un) (aD ii) C ():=by
 rintro ds ⟨d,m,rfl,hm,hd⟩;have t:=h.at';haveI:=h.S5;have O':OwnCls "NoText" C vB vN X.mg X.base:=by rw[h.Up,h.Uk];exact O
 have b1:=h.bt Tg;have b2:=h.bt US;have b3:=h.bt Sm;show mJ VI X [.val d,.val<|.int m,.un] _ _ _;rcases hd with⟨hp,hs⟩ |⟨cs,rfl,ha,hz,hd⟩;·exact bG<|Vw.z<|By t (Sg.eq (fG (u:=true) (v:=false) (Sg.eq (nu<|jJ<|sC t b1 b2 (aa t 0) hp)<|by rw[hs];rfl) λz=>nomatch z) rfl)<|mP<|jW t O' Sd
 by_cases q:m<cs.length;·exact bG<|Vw.z<|By t (Sg.eq (fG (u:=false) (Sg.eq (nu<|jJ<|sC t b1 b2 (aa t 0) rfl) rfl) λ_=>fg (dB t b3 (aa t 0)<|TN hz)<|aa t 1)<|by rw[cq,iz,decide_eq_true_iff];lia)<|mP<|jW t O' Sd
 refine de t (SQ.z<|cB (Sg.eq (fG (u:=false) (Sg.eq (nu<|jJ<|sC t b1 b2 (aa t 0) rfl) rfl) λ_=>fg (dB t b3 (aa t 0)<|TN hz)<|aa t 1)<|by rw[cq,iz,aK];lia) bQ) ?_;rcases hd with hd |hd |⟨ts,hl,hd⟩;·exact absurd hd q
 ·exact bG<|Vw.z<|Gu<|qG t x1 (ac (aa t 0) ah) ⟨cs,rfl,hd,ha,hz⟩
 have ht:∀u∈ts,∀c∈u,c<128:=λu hu=>(hl.w ha u hu).1;refine de t (SQ.z<|aX t 2<|aG t c1 (ac (aa t 0) ah) ⟨cs,ts,rfl,hl,ha,hz,rfl⟩) ?_;by_cases q1:∀i,i<=ts.length->iV [40] [41] (ts.take i)<=20;·refine de t (SQ.z<|Ae<|aG t c2 (ac (aa t 2)<|ac Sd<|ac Sd ah) ⟨ts,[40],[41],rfl,ht,by simp,by simp,q1,rfl⟩) ?_;exact bG<|Vw.z<|CY<|qG t x2 (ac (aa t 2)<|ac Sd<|ac Sd ah) ⟨ts,[91],[93],rfl,ht,by simp,by simp,λz=>hd ⟨q1,z⟩⟩
 ·exact bG<|Vw.z<|CY<|qG t x2 (ac (aa t 2)<|ac Sd<|ac Sd ah) ⟨ts,[40],[41],rfl,ht,by simp,by simp,q1⟩
def uE(u:bZ):Int:=((PySem.NumText.digitsVal u:Nat):Int)
def NF(u:bZ):Bd:=if u=[120]then [[0,1]]else if u=[121]then [[],[1]]else if uE u=0 then []else [[uE u]]
def ui(ds:aQ)(d:D):Prop:=∃u,ds=[.str<|S u]/\TR u/\d=bo (NF u)
def B4:∀ds d,ui ds d->ds.length=1:=by rintro _ _ ⟨a,rfl,_⟩;rfl
def wc(h:xk u):PySem.intText? (S u)=some (uE u):=by have:=PySem.intText_digits (x:=S u) (by rw[eD];exact h.2.1) (by rw[eD];exact h.1) (by rw[cq];have:=h.2.2.1;lia);rw[eD]at this;exact this
def FY(h:DefX P w K mg base k ug (ai pK) X)(Th:mg "int"=none):Go X ug pK ui:=by
 rintro ds r ⟨u,rfl,hu,rfl⟩;have t:=h.at';haveI:=h.S5;have b1:=h.bt Th;have ok:=dA hu.lt;have e1:decide (S u=("x":Str))=decide (u=[120]):=bI.mpr ⟨λe=>fP<|by rw[e];decide,λe=>by rw[e];decide⟩;have e2:decide (S u=("y":Str))=decide (u=[121]):=bI.mpr ⟨λe=>fP<|by rw[e];decide,λe=>by rw[e];decide⟩;show Sf X [.val<|.str<|S u,.un] _ _;refine iT (Sg.eq (cf t (aa t 0) Sd ok) e1) (λv=>aw<|bg<|Se.eq (aF<|ac (aF<|ac af<|ac af ah) ah) ?_) λv=>?_;·rw[bj]at v;subst v;rfl
 rw[aK]at v;refine iT (Sg.eq (cf t (aa t 0) Sd ok) e2) (λv'=>aw<|bg<|Se.eq (aF<|ac (aF ah)<|ac (aF<|ac af ah) ah) ?_) λv'=>?_;·rw[bj]at v';subst v';rfl
 rw[aK]at v';have hn:xk u:=by
  rcases hu with hh |hh |hh;·exact hh
  ·exact absurd hh v
  ·exact absurd hh v'
 refine au (aX t 1<|sD t b1 (aa t 0) (wc hn)<|by rw[cq];have:=hn.2.2.1;lia)<|aw<|bg ?_;unfold NF;rw[av v,av v'];by_cases e:uE u=0;·rw[ax e];exact wM (Sg.eq (oS (aa t 1) af)<|by rw[e];rfl)<|aF ah
 ·rw[av e];exact wL (Sg.eq (oS (aa t 1) af)<|by rw[ak e];rfl)<|aF<|ac (aF<|ac (aa t 1) ah) ah
def uD(b:Bd):Nat->Bd|0=>[[1]]|i+1=>jd (uD b i) b
def LN(b:Bd)(m:Nat):Prop:=(∀i,i<m->Vn 100 (uD b i)/\LP (uD b i))/\Vn 100 b/\LP b
def jo(ds:aQ)(d:D):Prop:=∃(b:Bd)(m:Nat),ds=[bo b,.int m]/\m<=9/\LN b m/\d=bo (uD b m)
def qQ:∀ds d,jo ds d->ds.length=2:=by rintro _ _ ⟨a,b,rfl,_⟩;rfl
def t9(h:DefX P w K mg base k jm (ai gq) X)(Sw:mg "range"=none)(c1:EV.Callee X "board_times" jF):Go X jm gq jo:=by
 rintro ds r ⟨b,m,rfl,hm,hb,rfl⟩;have t:=h.at';haveI:=h.S5;have b1:=h.bt Sw;show Sf X [.val<|bo b,.val<|.int m,.un,.un] _ _;refine au (aX t 2<|aF<|ac (aF<|ac af ah) ah)<|au (ik t (fz t b1 (aa t 1) (by lia)<|by lia)<|SJ.SY (ρ':=[.val<|bo b,.val<|.int m,.val<|bo<|uD b m,.un]) (λi=>[.val<|bo b,.val<|.int m,.val<|bo<|uD b i,.un]) (λj d e=>?_) rfl ?_)<|aw<|bg<|aa t 2
 ·have hj:j<m:=by have:=(List.getElem?_eq_some_iff.mp e).1;simpa[dY]using this
  exact⟨_,bv t 3,Sf.weak (aw<|aX t 2<|aG t c1 (ac (aa t 2)<|ac (aa t 0) ah) ⟨uD b j,b,rfl,(hb.1 j hj).1,hb.2.1,(hb.1 j hj).2,hb.2.2,rfl⟩)<|.keep<|.keep<|.keep<|.forget .nil⟩
 ·simp[dY]
inductive Ul:bZ->List Bd->List Bd->Prop where
 |atom {u:bZ} {st:List Bd}:TR u->Ul u st (st++[NF u])
 |add {st:List Bd} {a b:Bd}:Vn 1000 a->Vn 1000 b->Ul [43] (st++[a]++[b]) (st++[oC a b])
 |sub {st:List Bd} {a b:Bd}:Vn 1000 a->Vn 1000 b->Ul [45] (st++[a]++[b]) (st++[oC a<|wj b])
 |mul {st:List Bd} {a b:Bd}:Vn 100 a->Vn 100 b->LP a->LP b->Ul [42] (st++[a]++[b]) (st++[jd a b])
 |neg {st:List Bd} {b:Bd}:Vn 1000 b->Ul [109,105,110,117,115] (st++[b]) (st++[oC []<|wj b])
 |pow {st:List Bd} {b:Bd} {d:Nat}:LN b d->d<=9->Ul [94,48+d] (st++[b]) (st++[uD b d])
def mL(d0:D)(xs xs':aQ):Prop:=∃(u:bZ)(st Vy:List Bd),d0=.str (S u)/\Ul u st Vy/\st.length<10000/\xs=st.map bo/\xs'=Vy.map bo
def RS:Vn 1000 []:=⟨by decide,λr h=>nomatch h⟩
def RC(w:Str):((Sq [D.str "+",.str "-",.str "*"]).any λy=>PyData.eqv y<|fS<|.str w)=(decide (w="+")||(decide (w="-")||decide (w="*"))):=by show((("+":Str)==w)||((("-":Str)==w)||((("*":Str)==w)||false)))=_;rw[lF,lF,lF,PM,bI.mpr (show("+":Str)=w↔w="+"from Ru),bI.mpr (show("-":Str)=w↔w="-"from Ru),bI.mpr (show("*":Str)=w↔w="*"from Ru)]
def Ml(h:TR u):∃c cs,u=c::cs/\((48<=c/\c<=57)\/(c=120/\cs=[])\/(c=121/\cs=[])):=by
 rcases h with h |rfl |rfl;·cases u with|nil=>exact absurd rfl h.1|cons c cs=>exact⟨c,cs,rfl,.inl<|h.2.1 c<|by simp⟩
 ·exact⟨_,_,rfl,.inr<|.inl ⟨rfl,rfl⟩⟩
 ·exact⟨_,_,rfl,.inr<|.inr ⟨rfl,rfl⟩⟩
def Ad{u:bZ}{z:Str}(hz:z=S v)(h:u≠v):decide (S u=z)=false:=ak λe=>h<|fP<|e.trans hz
def zp:("+":Str)=S [43]:=by decide
def zm:("-":Str)=S [45]:=by decide
def zt:("*":Str)=S [42]:=by decide
def zn:("minus":Str)=S [109,105,110,117,115]:=by decide
def zc:("^":Str)=S [94]:=by decide
def NZ{st:Stmt}{b:aQ}(h:rk X q ρ st o s a)(e:a=b):rk X q ρ st o s b:=e▸h
def sR(h:DefX P w K mg base k Tn (ai gp) X)(Th:mg "int"=none)(c1:EV.Callee X "board_times" jF)(c2:EV.Callee X "board_minus" l7)(c3:EV.Callee X "board_plus" kg)(c4:EV.Callee X "power_of_board" jo)(c5:EV.Callee X "atom_of" ui):∀q d0 xs xs',mL d0 xs xs'->∃ρ',UZ X q (.val d0::.val (.adr q)::List.replicate (Tn.length-2) Sl.un) (aD gp) (.nx ρ') xs xs':=by
 rintro q d0 xs xs' ⟨u,st,Vy,rfl,hs,hl,rfl,rfl⟩;have t:=h.at';haveI:=h.S5;have b1:=h.bt Th;have cw:PyData.canLayAll0 (Sq [D.str "+",.str "-",.str "*"])=true:=by decide
 show∃ρ',UZ X q [.val<|.str<|S u,.val<|.adr q,.un,.un] _ (.nx ρ') _ _;cases hs with
 |atom hu=>
  obtain⟨c,cs,rfl,hc⟩:=Ml hu;have f1:c≠43/\c≠45/\c≠42/\c≠109/\c≠94:=by lia
  have ok:=dA hu.lt;have i1:(decide (S (c::cs)=("+":Str))||(decide (S (c::cs)=("-":Str))||decide (S (c::cs)=("*":Str))))=false:=by rw[Ad zp (by intro e;cases e;exact f1.1 rfl),Ad zm (by intro e;cases e;exact f1.2.1 rfl),Ad zt<|by intro e;cases e;exact f1.2.2.1 rfl];rfl
  refine⟨[.val<|.str<|S<|c::cs,.val<|.adr q,.un,.un],gx<|nX (Sg.l<|jQ (r:=false) t (aa t 0) (aF<|ac Sd<|ac Sd<|ac Sd ah) (dN ok) (dk _) cw<|by rw[RC];exact i1)<|gx<|nX (Sg.l<|Sg.eq (cf t (aa t 0) Sd ok)<|Ad zn<|by intro e;cases e;exact f1.2.2.2.1 rfl)<|gx<|nX (Sg.l<|Sg.eq (cf t (c9 (c:=c) (aa t 0) af (TN<|by have:=hu.len;lia)<|by rw[eD];exact dJ (j:=0) rfl) Sd (dA (cs:=[c]) λx hx=>hu.lt x<|by simp at hx;simp[hx]))<|Ad (u:=[c]) zc<|by intro e;cases e;exact f1.2.2.2.2 rfl)<|gx<|NZ (ku t 1 rfl (Se.em<|aG t c5 (ac (aa t 0) ah) ⟨_,rfl,hu,rfl⟩)<|by rw[aj];exact sz hl)<|by rw[aN];rfl⟩
 |@add s0 a b ha hb=>refine⟨[.val<|.str<|S [43],.val<|.adr q,.val<|bo b,.val<|bo a],gx<|qy (Sg.l<|jQ (r:=true) t (aa t 0) (aF<|ac Sd<|ac Sd<|ac Sd ah) (dN<|by decide) (dk _) cw<|by decide)<|ef (lQ t 2<|lD t 1 rfl (xs':=(s0++[a]).map bo)<|by simp)<|ef (lQ t 3<|lD t 1 rfl (xs':=s0.map bo)<|by simp)<|gx<|nX (Sg.l<|Sg.eq (cf t (aa t 0) Sd<|by decide)<|by decide)<|gx<|NZ (ku t 1 rfl (Se.em<|wL (Sg.eq (cf t (aa t 0) Sd<|by decide)<|by decide)<|aG t c3 (ac (aa t 3)<|ac (aa t 2) ah) ⟨a,b,rfl,ha,hb,rfl⟩)<|by rw[aj];exact sz<|by simp at hl;lia)<|by rw[aN];rfl⟩|@sub s0 a b ha hb=>refine⟨[.val<|.str<|S [45],.val<|.adr q,.val<|bo b,.val<|bo a],gx<|qy (Sg.l<|jQ (r:=true) t (aa t 0) (aF<|ac Sd<|ac Sd<|ac Sd ah) (dN<|by decide) (dk _) cw<|by decide)<|ef (lQ t 2<|lD t 1 rfl (xs':=(s0++[a]).map bo)<|by simp)<|ef (lQ t 3<|lD t 1 rfl (xs':=s0.map bo)<|by simp)<|gx<|nX (Sg.l<|Sg.eq (cf t (aa t 0) Sd<|by decide)<|by decide)<|gx<|NZ (ku t 1 rfl (Se.em<|wM (Sg.eq (cf t (aa t 0) Sd<|by decide)<|by decide)<|aG t c2 (ac (aa t 3)<|ac (aa t 2) ah) ⟨a,b,rfl,ha,hb,rfl⟩)<|by rw[aj];exact sz<|by simp at hl;lia)<|by rw[aN];rfl⟩
 |@mul s0 a b ha hb hu hv=>refine⟨[.val<|.str<|S [42],.val<|.adr q,.val<|bo b,.val<|bo a],gx<|qy (Sg.l<|jQ (r:=true) t (aa t 0) (aF<|ac Sd<|ac Sd<|ac Sd ah) (dN<|by decide) (dk _) cw<|by decide)<|ef (lQ t 2<|lD t 1 rfl (xs':=(s0++[a]).map bo)<|by simp)<|ef (lQ t 3<|lD t 1 rfl (xs':=s0.map bo)<|by simp)<|gx<|qy (Sg.l<|Sg.eq (cf t (aa t 0) Sd<|by decide)<|by decide)<|gx<|NZ (ku t 1 rfl (Se.em<|aG t c1 (ac (aa t 3)<|ac (aa t 2) ah) ⟨a,b,rfl,ha,hb,hu,hv,rfl⟩)<|by rw[aj];exact sz<|by simp at hl;lia)<|by rw[aN];rfl⟩|@neg s0 b hb=>refine⟨[.val<|.str<|S [109,105,110,117,115],.val<|.adr q,.un,.un],gx<|nX (Sg.l<|jQ (r:=false) t (aa t 0) (aF<|ac Sd<|ac Sd<|ac Sd ah) (dN<|by decide) (dk _) cw<|by decide)<|gx<|qy (Sg.l<|Sg.eq (cf t (aa t 0) Sd<|by decide)<|by decide)<|gx<|NZ (ku t 1 rfl (Cf t c2 (Bo (Se.em<|aF ah)<|Bo (lD t 1 rfl (xs':=s0.map bo)<|by simp)<|S3.am ah) ⟨[],b,rfl,RS,hb,rfl⟩)<|by rw[aj];exact sz<|by simp at hl;lia)<|by rw[aN];rfl⟩
 |@pow s0 b d hb hd=>
  have ok:PyData.strOk (S [94,48+d])=true:=dA λx hx=>by simp at hx;lia
  have i1:(decide (S [94,48+d]=("+":Str))||(decide (S [94,48+d]=("-":Str))||decide (S [94,48+d]=("*":Str))))=false:=by rw[Ad zp (by intro e;cases e),Ad zm (by intro e;cases e),Ad zt<|by intro e;cases e];rfl
  have Yr:PySem.intText? (S [48+d])=some ((d:Nat):Int):=by
   have:∀d:Nat,d<10->PySem.intText? (S [48+d])=some ((d:Nat):Int):=by decide
   exact this d<|by lia
  refine⟨[.val<|.str<|S [94,48+d],.val<|.adr q,.un,.un],gx<|nX (Sg.l<|jQ (r:=false) t (aa t 0) (aF<|ac Sd<|ac Sd<|ac Sd ah) (dN ok) (dk _) cw<|by rw[RC];exact i1)<|gx<|nX (Sg.l<|Sg.eq (cf t (aa t 0) Sd ok)<|Ad zn<|by intro e;cases e)<|gx<|qy (Sg.l<|Sg.eq (cf t (c9 (c:=94) (aa t 0) af (TN<|by simp)<|by rw[eD];exact dJ (j:=0) rfl) Sd<|by decide)<|by decide)<|gx<|NZ (ku t 1 rfl (Cf t c4 (Bo (lD t 1 rfl (xs':=s0.map bo)<|by simp)<|S3.am<|ac (sD t b1 (c9 (c:=48+d) (aa t 0) af (TN<|by simp)<|by rw[eD];exact dJ (j:=1) rfl) Yr<|by show(S [48+d]).length<=640;rw[cq];simp) ah) ⟨b,d,rfl,hd,hb,rfl⟩)<|by rw[aj];exact sz<|by simp at hl;lia)<|by rw[aN];rfl⟩
inductive Runs:List bZ->List Bd->List Bd->Prop where
 |nil {a:List Bd}:Runs [] a a
 |cons {u:bZ} {us:List bZ} {a b c:List Bd}:Ul u a b->Runs us b c->Runs (u::us) a c
def Runs.app{us vs:List bZ}{a b c:List Bd}(h:Runs us a b)(g:Runs vs b c):Runs (us++vs) a c:=by induction h with|nil=>exact g|cons s _ ih=>exact .cons s<|ih g
def Ul.len{a b:List Bd}(h:Ul u a b):b.length<=a.length+1:=by cases h<;>simp<;>lia
def Runs.ix{us:List bZ}{a c:List Bd}(h:Runs us a c):∃f:Nat->List Bd,f 0=a/\f us.length=c/\∀i(hi:i<us.length),Ul us[i] (f i) (f<|i+1)/\(f i).length<=a.length+i:=by induction h with|@nil a=>exact⟨λ_=>a,rfl,rfl,λi hi=>nomatch hi⟩|@cons u us a b c s r ih=>obtain⟨f,f0,f1,f2⟩:=ih;refine⟨λi=>match i with |0=>a |j+1=>f j,rfl,f1,λi hi=>?_⟩;cases i with|zero=>exact⟨by show Ul u a (f 0);rw[f0];exact s,by simp⟩|succ j=>have:=f2 j (by simpa using hi);exact⟨this.1,by have l:=s.len;have:=this.2;show(f j).length<=_;lia⟩
def jK(ds:aQ)(d:D):Prop:=∃(cs:bZ)(T:TK)(tr:Tr)(b:Bd),ds=[.str<|S cs]/\Lx cs T/\(∀c∈cs,c<128)/\cs.length<=1000/\pp T/\g T 21 0=(some tr,T.length)/\Runs (dP tr) [] [b]/\d=bo b
def qz:∀ds d,jK ds d->ds.length=1:=by rintro _ _ ⟨a,b,c,d,rfl,_⟩;rfl
def gl(ds:aQ):Prop:=∃d:D,ds=[d]/\(Pv d 1000\/∃(cs:bZ)(T:TK),d=.str (S cs)/\Lx cs T/\(∀c∈cs,c<128)/\cs.length<=1000/\pp T/\∀tr,g T 21 0≠(some tr,T.length))
def oI:∀ds,gl ds->ds.length=1:=by rintro _ ⟨a,rfl,_⟩;rfl
def Cz(h:DefX P w K mg base k Tu (ai ij) X)(c1:Ud X "reader_of" lH)(c2:Si X "read_sum" (CZ g 21))(c3:Si X "refuse_more" l6)(c4:UY X "take_term_step" mL)(gM:∃tk,mg "MOST_SIGNS"=some (.int 1000 tk)):Go X Tu ij jK:=by
 rintro ds r ⟨cs,T,tr,b,rfl,hl,ha,hz,hd,hG,hr,rfl⟩;have t:=h.at';haveI:=h.S5;have Wl:∃tk,X.mg "MOST_SIGNS"=some (.int 1000 tk):=by rw[h.Up];exact gM
 obtain⟨f,f0,f1,f2⟩:=hr.ix;have A:=fN T 21 0 tr T.length hG;have hs:(dP tr).length<10000:=by have:=A.Vs;have:=hl.len;lia
 have hT:=hl.ok ha (by lia) hd;show Sf X [.val<|.str<|S cs,.un,.un,.un] _ _;refine Ku (toks:=sm T) t 1 c1 (ac (aa t 0)<|ac (iQ t Wl) ah) ⟨cs,T,1000,rfl,hl,ha,hz,by decide,hd,rfl⟩ λr ok et=>⟨((T.length:Nat),az<|dP tr),?_⟩;show Tx (Sk r) X [.val<|.str<|S cs,.val<|.adr r.p,.un,.un] _ _ ((0:Int),([]:aQ)) ((T.length:Nat),az<|dP tr);refine cy (s1:=(((T.length:Nat):Int),az<|dP tr)) (dj<|dC (s1:=((0:Int),([]:aQ))) t ok c2 (bS (Se.z<|aa t 1)<|S3.z ah) ⟨T,0,tr,T.length,rfl,et,hT,rfl,rfl,ar _,hG,rfl,rfl⟩) ?_;refine cy (s1:=(((T.length:Nat):Int),az<|dP tr)) (dj<|dC (s1:=(((T.length:Nat):Int),az<|dP tr)) t ok c3 (bS (Se.z<|aa t 1)<|S3.z ah) ⟨T.length,rfl,rfl,by rw[et];unfold sm;rw[aj];exact ar _,rfl,rfl⟩) ?_;refine cy (SQ.z<|iH t 2<|bE ah)<|cy (ρ1:=[.val<|.str<|S cs,.val<|.adr r.p,.own<|[b].map bo,.un]) (Gp t ok 1 rfl<|SJ.SY (λi=>[.val<|.str<|S cs,.val<|.adr r.p,.own<|(f i).map bo,.un]) (λj d e=>?_) (by rw[f0];rfl) ?_)<|dU<|vq<|Se.z<|aY (hV t 2 rfl) af rfl
 ·have e':(az<|dP tr)[j]?=some d:=e;unfold az at e';rw[List.getElem?_map]at e';cases e2:(dP tr)[j]? with
  |none=>rw[e2]at e';cases e'
  |some u=>rw[e2]at e';cases e';obtain⟨hj,eu⟩:=List.getElem?_eq_some_iff.mp e2;have f3:=f2 j hj;rw[eu]at f3;refine⟨_,bv t 3,Sf.weak (aw<|GR t c4 2 rfl (aa t 3) ⟨u,f j,f<|j+1,rfl,f3.1,by have:=f3.2;simp at this;lia,rfl,rfl⟩)<|.keep<|.keep<|.keep<|.forget .nil⟩
 ·show _=_;have:((((T.length:Nat):Int),az<|dP tr):Int×aQ).2.length=(dP tr).length:=by show(az _).length=_;unfold az;rw[aj]
  rw[this,f1]
def A1(h:DefX P w K mg base k Tu (ai ij) X)(c1:Ud X "reader_of" lH)(x1:jB X "reader_of" C oY)(c2:Si X "read_sum" (CZ g 21))(x2:fQ X "read_sum" C (RZ g 21))(x3:fQ X "refuse_more" C lT)(gM:∃tk,mg "MOST_SIGNS"=some (.int 1000 tk)):∀ds,gl ds->mJ VI X (ds.map Sl.val++List.replicate (Tu.length-ds.length) Sl.un) (aD ij) C ():=by
 rintro ds ⟨d,rfl,hd⟩;have t:=h.at';haveI:=h.S5;have Wl:∃tk,X.mg "MOST_SIGNS"=some (.int 1000 tk):=by rw[h.Up];exact gM
 show mJ VI X [.val d,.un,.un,.un] _ _ _;rcases hd with hd |⟨cs,T,rfl,hl,ha,hz,hd,hG⟩;·exact bG<|Vw.z<|Gu<|qG t x1 (ac (aa t 0)<|ac (iQ t Wl) ah) ⟨d,1000,rfl,by decide,hd⟩
 have hT:=hl.ok ha (by lia) hd;refine Jd (toks:=sm T) t 1 c1 (ac (aa t 0)<|ac (iQ t Wl) ah) ⟨cs,T,1000,rfl,hl,ha,hz,by decide,hd,rfl⟩ λr ok et=>?_;show mJ (Sk r) X [.val<|.str<|S cs,.val<|.adr r.p,.un,.un] _ _ ((0:Int),([]:aQ));cases e:g T 21 0 with
 |mk o en=>
  cases o with
  |none=>exact bG<|gU<|iC (s1:=((0:Int),([]:aQ))) t ok x2 (bS (Se.z<|aa t 1)<|S3.z ah) ⟨T,0,rfl,et,hT,rfl,rfl,ar _,by rw[e]⟩
  |some tr=>
   have A:=fN T 21 0 tr en e;have S1:en<T.length:=by have:=A.le;have:en≠T.length:=λz=>hG tr (by rw[e,z]);lia
   refine de (s1:=((en:Int),az<|dP tr)) t (dj<|dC (s1:=((0:Int),([]:aQ))) t ok c2 (bS (Se.z<|aa t 1)<|S3.z ah) ⟨T,0,tr,en,rfl,et,hT,rfl,rfl,ar _,e,rfl,rfl⟩) ?_;exact bG<|gU<|iC (s1:=((en:Int),az<|dP tr)) t ok x3 (bS (Se.z<|aa t 1)<|S3.z ah) ⟨en,rfl,rfl,by rw[et];unfold sm;rw[aj];exact S1⟩
def qM(n:Nat):bZ:=(Nat.toDigits 10 n).map Char.toNat
def Ht(n:Nat):(toString ((n:Nat):Int):Str)=S (qM n):=by rw[Rh (toString ((n:Nat):Int):Str)];congr 1;exact PySem.W.KIN.signs_num n
def Nh{n:Nat}:∀c∈qM n,48<=c/\c<=57:=λc hc=>by unfold qM at hc;obtain⟨d,hd,rfl⟩:=List.mem_map.mp hc;have:=Nat.isDigit_of_mem_toDigits (by decide) (by decide) hd;simp only[Char.isDigit,dM,bj]at this;exact⟨this.1,this.2⟩
def HA{n:Nat}(h:n<10 ^ 12):((n:Nat):Int).natAbs.log2<1920:=by
 rw[ig];by_cases h0:n=0;·subst h0;decide
 ·exact(Nat.log2_lt h0).mpr<|ml h<|by decide
def EA(n:Nat):qM n≠[]:=λe=>by unfold qM at e;exact Nat.toDigits_ne_nil<|List.map_eq_nil_iff.mp e
def iu(kv:fA):Nat:=(kv.map λp=>p.2.natAbs).sum
def mC(p:bh×Int)(r:fA):iu (p::r)=p.2.natAbs+iu r:=rfl
def JY(a b:fA):iu (a++b)=iu a+iu b:=by unfold iu;rw[aN,KS]
def B1(k:bh)(v:Int):∀(r:fA),(∀p∈r,p.1≠k)->r.map (λp=>if p.1=k then(p.1,v)else p)=r|[],_=>rfl|p::r,h=>by rw[aP,av<|h p<|by simp,B1 k v r λq hq=>h q<|by simp[hq]]
def BV(k:bh)(v:Int):∀(kvs:fA),(kvs.map (·.1)).Nodup->iu (kvs.map λp=>if p.1=k then(p.1,v)else p)<=iu kvs+(v-(du kvs k).getD 0).natAbs
 |[],_=>by simp[iu]
 |p::r,nd=>by
  rw[aP,dG]at nd;rw[aP,mq];by_cases h:p.1=k;·have hr:∀q∈r,q.1≠k:=λq hq e=>nd.1<|List.mem_map.mpr ⟨q,hq,e.trans h.symm⟩;rw[ax h,ax h,B1 k v r hr,mC,mC];show v.natAbs+iu r<=p.2.natAbs+iu r+(v-p.2).natAbs;lia
  ·rw[av h,av h,mC,mC];have:=BV k v r nd.2;lia
def EB(h:TX kvs)(k:bh)(v:Int):iu (gE kvs k v)<=iu kvs+(v-(du kvs k).getD 0).natAbs:=by
 unfold gE;split;·exact BV k v kvs h.nd
 ·rename_i e;have:du kvs k=none:=by cases q:du kvs k with |none=>rfl |some z=>rw[q]at e;exact absurd rfl e
  rw[this,JY];show iu kvs+(v.natAbs+0)<=iu kvs+(v-0).natAbs;lia
def BW(a c:Nat)(v:Int):∀(B acc:fA),TX acc->(∀p∈B,∃i k:Nat,p.1=nk i k)->iu (jh (nk a c,v) acc B)<=iu acc+v.natAbs*iu B
 |[],acc,_,_=>by show iu acc<=iu acc+v.natAbs*0;lia
 |(k,x)::B,acc,h,hB=>by
  obtain⟨i,j,e⟩:=hB (k,x) (by simp);have e':k=nk i j:=e;subst e';have h1:=h.put (a+i) (c+j)<|(du acc<|nk (a+i)<|c+j).getD 0+v*x;have h2:=EB h (nk (a+i)<|c+j)<|(du acc<|nk (a+i)<|c+j).getD 0+v*x;have h3:=BW a c v B _ h1 λp hp=>hB p (by simp[hp]);show iu (jh (nk a c,v) (gE acc (ud (nk a c)<|nk i j)<|(du acc<|ud (nk a c)<|nk i j).getD 0+v*x) B)<=iu acc+v.natAbs*(x.natAbs+iu B);rw[Bp,Nat.mul_add];have h4:((du acc<|nk (a+i)<|c+j).getD 0+v*x-(du acc<|nk (a+i)<|c+j).getD 0).natAbs=v.natAbs*x.natAbs:=by rw[(λa b=>by lia:∀a b:Int,a+b-a=b),NV]
  rw[h4]at h2;lia
def uv(B:fA)(hB:∀p∈B,∃i k:Nat,p.1=nk i k):∀(A acc:fA),TX acc->(∀p∈A,∃i k:Nat,p.1=nk i k)->iu (A.foldl (λacc p=>jh p acc B) acc)<=iu acc+iu A*iu B|[],acc,_,_=>by show iu acc<=iu acc+0*iu B;lia|(k,v)::A,acc,h,hA=>by obtain⟨a,c,e⟩:=hA (k,v) (by simp);have e':k=nk a c:=e;subst e';have h1:=(u8 a c v (λ_ _=>0) B acc h hB).1;have h2:=BW a c v B acc h hB;have h3:=uv B hB A _ h1 λp hp=>hA p (by simp[hp]);show iu (A.foldl (λacc p=>jh p acc B)<|jh (nk a c,v) acc B)<=iu acc+(v.natAbs+iu A)*iu B;rw[Nat.add_mul];lia
def wf(hA:TX A)(hB:TX B):iu (lw A B)<=iu A*iu B:=by have:=uv B hB.keys A [] .nil hA.keys;have e:iu ([]:fA)=0:=rfl;rw[e]at this;unfold lw;lia
def su(s:Int)(hs:s.natAbs=1):∀(B A:fA),TX A->(∀p∈B,∃i k:Nat,p.1=nk i k)->iu (dy A B s)<=iu A+iu B
 |[],A,_,_=>by show iu A<=iu A+0;lia
 |(k,x)::B,A,h,hB=>by
  obtain⟨i,j,e⟩:=hB (k,x) (by simp);have e':k=nk i j:=e;subst e';have h1:=h.put i j<|(du A<|nk i j).getD 0+s*x;have h2:=EB h (nk i j)<|(du A<|nk i j).getD 0+s*x;have h3:=su s hs B _ h1 λp hp=>hB p (by simp[hp]);have h4:((du A<|nk i j).getD 0+s*x-(du A<|nk i j).getD 0).natAbs=x.natAbs:=by rw[(λa b=>by lia:∀a b:Int,a+b-a=b),NV,hs,Nat.one_mul]
  rw[h4]at h2;show iu (dy (gE A (nk i j)<|(du A<|nk i j).getD 0+s*x) B s)<=iu A+(x.natAbs+iu B);lia
def JX{kv:fA}{p:bh×Int}(h:p∈kv):p.2.natAbs<=iu kv:=by
 induction kv with
 |nil=>cases h
 |cons q r ih=>
  rw[mC];rcases List.mem_cons.mp h with rfl |h;·lia
  ·have:=ih h;lia
def Di{kv:fA}{M:Nat}(h:iu kv<=M):VB M kv:=λp hp=>ao (JX hp) h
def Lz(φ:Nat->Nat->Int)(hφ:∀i k,(φ i k).natAbs<=1):∀kv:fA,(ds kv φ).natAbs<=iu kv
 |[]=>ar _
 |p::r=>by
  have ih:=Lz φ hφ r;rw[mC,ds];have h1:=hφ (p.1.getD 0 0).toNat (p.1.getD 1 0).toNat;generalize φ (p.1.getD 0 0).toNat (p.1.getD 1 0).toNat=z at h1;have h2:(p.2*z).natAbs<=p.2.natAbs:=by rw[NV];exact ao (cU _ h1)<|by lia
  lia
def Ky(i k a c:Nat):(qb i k a c).natAbs<=1:=by unfold qb;split<;>decide
def DF{n:Nat}{i k:Nat}(q:n<=i\/n<=k):∀{kv:fA},TM n kv->ds kv (qb i k)=0|[],_=>rfl|p::r,h=>by obtain⟨a,c,e,ha,hc⟩:=h p (by simp);rw[ds,DF q λz hz=>h z<|by simp[hz],e];show p.2*qb i k a c+0=0;unfold qb;rw[av<|by lia];lia
def A5(f g:Bd)(φ:Nat->Nat->Int):bs (oC f g) φ=bs f φ+bs g φ:=by unfold oC;rw[E7,oU _ (max f.length g.length) φ<|by simp,oU f (max f.length g.length) φ<|by lia,oU g (max f.length g.length) φ<|by lia,<-rN];refine dX _ λk hk=>?_;rw[vV,ax hk,Ej]
def GY:∀(f:bh)(ψ:Nat->Int),rs (f.map λx=>-x) ψ=-rs f ψ|[],ψ=>rfl|a::f,ψ=>by show-a*ψ 0+rs (f.map λx=>-x) _=-(a*ψ 0+rs f _);rw[GY f,Int.neg_mul];lia
def DN:∀(g:Bd)(φ:Nat->Nat->Int),bs (wj g) φ=-bs g φ|[],φ=>rfl|r::g,φ=>by show rs (r.map λx=>-x) _+bs (wj g) _=-(rs r _+bs g _);rw[GY,DN g];lia
def hU(kv:fA):Nat->fA|0=>[(nk 0 0,1)]|n+1=>lw (hU kv n) kv
def nA{kv:fA}(hB:SH B)(h:∀φ,bs B φ=ds kv φ)(hk:TM n kv):Fit n B:=Ng hB λi k q=>by rw[<-A6,h,DF q hk]
def Ba{M:Nat}{kv:fA}(h:∀φ,bs B φ=ds kv φ)(hn:iu kv<=M)(hM:M<2 ^ 1000):LP B:=BB.lim (M:=M) (λi k=>by rw[<-A6,h];exact ao (Lz _ (Ky i k) _) hn) hM
def oF(i k:Nat)(v:Int):TX [(nk i k,v)]:=⟨λp hp=>by rw[bu.mp hp];exact⟨i,k,rfl⟩,by simp⟩
def qL{i k n:Nat}(v:Int)(hi:i<n)(hk:k<n):TM n [(nk i k,v)]:=λp hp=>by rw[bu.mp hp];exact⟨i,k,rfl,hi,hk⟩
def wb(i k:Nat)(v:Int)(φ:Nat->Nat->Int):ds [(nk i k,v)] φ=v*φ i k:=by show v*φ ((i:Int)).toNat ((k:Int)).toNat+0=_;rw[aO,aO];lia
def Q4(φ:Nat->Nat->Int):bs [[0,1]] φ=1*φ 1 0:=by simp[bs,rs]
def Q3(φ:Nat->Nat->Int):bs [[],[1]] φ=1*φ 0 1:=by simp[bs,rs]
def QP:SH [[0,1]]:=⟨.inr ⟨[],[0,1],rfl,by decide⟩,λr hr=>by rw[bu.mp hr];exact .inr ⟨[0],1,rfl,by decide⟩⟩
def QO:SH [[],[1]]:=⟨.inr ⟨[[]],[1],rfl,by decide⟩,λr hr=>by
 rcases List.mem_cons.mp hr with rfl |hr;·exact .inl rfl
 ·rw[bu.mp hr];exact .inr ⟨[],1,rfl,by decide⟩⟩
def QQ(n:Int):SH (if n=0 then []else [[n]]):=by
 split;·exact⟨.inl rfl,λr hr=>nomatch hr⟩
 ·rename_i h;exact⟨.inr ⟨[],[n],rfl,by simp⟩,λr hr=>by rw[bu.mp hr];exact .inr ⟨[],n,rfl,h⟩⟩
def Q5(n:Int)(φ:Nat->Nat->Int):bs (if n=0 then []else [[n]]) φ=n*φ 0 0:=by
 split;·rename_i h;rw[h];simp[bs]
 ·simp[bs,rs]
def Et{n m l a c:Nat}(v:Int)(ha:a<n)(hc:c<n)(hl:n+m<=l+1):∀(B acc:fA),TM m B->TM l acc->TM l (jh (nk a c,v) acc B)|[],acc,_,h=>h|(k,x)::B,acc,hB,h=>by obtain⟨i,j,e,hi,hj⟩:=hB (k,x) (by simp);have e':k=nk i j:=e;subst e';show TM l (jh (nk a c,v) (gE acc (ud (nk a c)<|nk i j)<|(du acc<|ud (nk a c)<|nk i j).getD 0+v*x) B);rw[Bp];exact Et v ha hc hl B _ (λp hp=>hB p<|by simp[hp])<|h.put (by lia) (by lia) _
def Er{n m l:Nat}(hl:n+m<=l+1)(hB:TM m B):∀(A acc:fA),TM n A->TM l acc->TM l (A.foldl (λacc p=>jh p acc B) acc)|[],acc,_,h=>h|(k,v)::A,acc,hA,h=>by obtain⟨i,j,e,hi,hj⟩:=hA (k,v) (by simp);have e':k=nk i j:=e;subst e';rw[xA];exact Er hl hB A _ (λp hp=>hA p<|by simp[hp])<|Et v hi hj hl B acc hB h
def mQ(s:Int):∀(B A:fA),TM n A->TM n B->TM n (dy A B s)|[],A,h,_=>h|(k,x)::B,A,h,hB=>by obtain⟨i,j,e,hi,hj⟩:=hB (k,x) (by simp);have e':k=nk i j:=e;subst e';exact mQ s B _ (h.put hi hj _) λp hp=>hB p<|by simp[hp]
def vY{n m:Nat}(hA:TM (n+1) A)(hB:TM (m+1) B):TM (n+m+1) (lw A B):=Er (n:=n+1) (m:=m+1) (l:=n+m+1) (by lia) hB A [] hA λp hp=>nomatch hp
def oA{kv:fA}(h:TX kv):∀p,TX (hU kv p)|0=>oF 0 0 1|p+1=>Ak (oA h p) h
def tH{kv:fA}{m:Nat}(h:TM (m+1) kv):∀p,TM (p*m+1) (hU kv p)|0=>qL 1 (by lia) (by lia)|p+1=>by have:=vY (tH h p) h;rw[mh];exact this
def pM{kv:fA}{N:Nat}(h:TX kv)(hn:iu kv<=N):∀p,iu (hU kv p)<=N ^ p|0=>ar _|p+1=>ao (wf (oA h p) h)<|by rw[mi];exact eV (pM h hn p) hn
def Al{kv:fA}(h:TX kv)(hb:∀φ,bs B φ=ds kv φ):∀p φ,bs (uD B p) φ=ds (hU kv p) φ|0,φ=>by show bs [[1]] φ=ds [(nk 0 0,1)] φ;rw[wb];simp[bs,rs]|p+1,φ=>by show bs (jd (uD B p) B) φ=ds (lw (hU kv p) kv) φ;rw[Ct,Al h hb p,E1 (oA h p) h];exact Ch _ λi k=>hb _
def Eu(B:Bd):∀p,SH (uD B p)|0=>⟨.inr ⟨[],[1],rfl,by decide⟩,λr hr=>by rw[bu.mp hr];exact .inr ⟨[],1,rfl,by decide⟩⟩|p+1=>yp _ _
inductive Tl
 |leaf (u:bZ)
 |pow (t:Tl) (d:Nat)
 |bin (k:Nat) (a b:Tl)
def cl:Tr->Tl
 |.leaf u=>.leaf u|.pow t d=>.pow (cl t) d
 |.neg t=>.bin 2 (.leaf [48]) (cl t)|.mul a b=>.bin 0 (cl a)<|cl b
 |.add a b=>.bin 1 (cl a) (cl b)|.sub a b=>.bin 2 (cl a)<|cl b
def ul(k:Nat):Str:=if k=0 then "product"else if k=1 then "more"else "less"
def sY:Tl->D
 |.leaf u=>.tup [.str "leaf",.str<|S u]|.pow t d=>.tup [.str "power",sY t,.int d]
 |.bin k a b=>.tup [.str<|ul k,sY a,sY b]
def xr(s:Nat):Nat->Nat|0=>1|i+1=>min (10 ^ 40)<|xr s i*s
def cK:Tl->Nat×Nat
 |.leaf u=>if u=[120]\/u=[121]then(1,1)else(0,max 1<|PySem.NumText.digitsVal u)
 |.pow t d=>((cK t).1*max 1 d,max (cK t).2<|xr (cK t).2 d)|.bin k a b=>if k=0 then((cK a).1+(cK b).1,min (10 ^ 40)<|(cK a).2*(cK b).2)else(max (cK a).1 (cK b).1,(cK a).2+(cK b).2)
def kr:Tl->fA
 |.leaf u=>if u=[120]then [(nk 1 0,1)]else if u=[121]then [(nk 0 1,1)]else [(nk 0 0,uE u)]
 |.pow t d=>hU (kr t) d|.bin k a b=>if k=0 then lw (kr a) (kr b)else dy (kr a) (kr b) (if k=2 then-1 else 1)
def dT:Tl->Nat
 |.leaf _=>1|.pow t _=>dT t+1
 |.bin _ a b=>max (dT a) (dT b)+1
def IJ:Tl->Prop
 |.leaf u=>TR u|.pow t d=>IJ t/\d<=9
 |.bin k a b=>k<=2/\IJ a/\IJ b
def Q2:∀t,1<=dT t
 |.leaf _=>ar _|.pow t _=>IP<|bR _
 |.bin _ _ _=>IP<|bR _
def LG:∀t,1<=(cK t).2
 |.leaf u=>by unfold cK;split;exact ar _;exact Nat.le_max_left _ _|.pow t d=>by have:=LG t;show 1<=max (cK t).2 _;lia
 |.bin k a b=>by
  have h1:=LG a;have h2:=LG b;have:=eV h1 h2;unfold cK;split;·show 1<=min (10 ^ 40) ((cK a).2*(cK b).2);lia
  ·show 1<=(cK a).2+(cK b).2;lia
def CQ(t:Tl):Prop:=(cK t).1<=9/\(cK t).2<=10 ^ 30
def t7{t:Tl}(h:CQ (.pow t d)):CQ t:=by have h1:(cK t).1*max 1 d<=9:=h.1;have h2:max (cK t).2 (xr (cK t).2 d)<=10 ^ 30:=h.2;have:(cK t).1*1<=(cK t).1*max 1 d:=cU _ (by lia);exact⟨by lia,by lia⟩
def dO{a b:Tl}(h:CQ (.bin k a b)):CQ a/\CQ b:=by
 have q1:=LG a;have q2:=LG b;unfold CQ cK at h;by_cases e:k=0;·rw[ax e]at h;have h1:(cK a).1+(cK b).1<=9:=h.1;have h2:min (10 ^ 40) ((cK a).2*(cK b).2)<=10 ^ 30:=h.2;have h3:(cK a).2*1<=(cK a).2*(cK b).2:=cU _ q2;have h4:1*(cK b).2<=(cK a).2*(cK b).2:=ge _ q1;exact⟨⟨by lia,by lia⟩,by lia,by lia⟩
 ·rw[av e]at h;have h1:max (cK a).1 (cK b).1<=9:=h.1;have h2:(cK a).2+(cK b).2<=10 ^ 30:=h.2;exact⟨⟨by lia,by lia⟩,by lia,by lia⟩
def Ai{s:Nat}(h:1<=s):∀d,xr s d<=10 ^ 30->xr s d=s ^ d/\∀i,i<=d->s ^ i<=10 ^ 30
 |0,_=>⟨rfl,λi hi=>by rw[show i=0 by lia,Nat.pow_zero];decide⟩
 |d+1,hd=>by
  have e:xr s (d+1)=min (10 ^ 40) (xr s d*s):=rfl;rw[e]at hd;have h3:xr s d*1<=xr s d*s:=cU _ h;obtain⟨h1,h2⟩:=Ai h d (by lia);have e2:xr s (d+1)=s ^ (d+1):=by rw[e,show s ^ (d+1)=s ^ d*s from mi ..,<-h1];lia
  refine⟨e2,λi hi=>?_⟩;by_cases q:i<=d;·exact h2 i q
  ·rw[show i=d+1 by lia,<-e2,e];exact hd
structure NN(t:Tl):Prop where
 ko:TX (kr t)
 kd:TM ((cK t).1+1) (kr t)
 nb:iu (kr t)<=(cK t).2
def TM.up{m:Nat}{kv:fA}(h:TM n kv)(e:n<=m):TM m kv:=λp hp=>let⟨i,k,e',a,b⟩:=h p hp;⟨i,k,e',by lia,by lia⟩
def JZ(u:bZ):NN (.leaf u):=by
 by_cases h1:u=[120];·subst h1;exact⟨oF 1 0 1,qL 1 (by decide)<|by decide,by decide⟩
 ·by_cases h2:u=[121];·subst h2;exact⟨oF 0 1 1,qL 1 (by decide)<|by decide,by decide⟩
  ·have e:kr (.leaf u)=[(nk 0 0,uE u)]:=by show(if _ then _ else _)=_;rw[av h1,av h2]
   have e2:cK (.leaf u)=(0,max 1<|PySem.NumText.digitsVal u):=by show(if _ then _ else _)=_;rw[av λz=>z.elim h1 h2]
   refine⟨by rw[e];exact oF 0 0 _,by rw[e,e2];exact qL _ (Nat.succ_pos _)<|Nat.succ_pos _,?_⟩;rw[e,e2];show(uE u).natAbs+0<=max 1 _;unfold uE;lia
def MQ{t:Tl}(h:CQ (.pow t d))(m:NN t):NN (.pow t d):=by
 have h2:max (cK t).2 (xr (cK t).2 d)<=10 ^ 30:=h.2;have hp:=Ai (LG t) d (by lia);refine⟨oA m.ko d,(tH m.kd d).up ?_,ao (pM m.ko m.nb d) ?_⟩;·show d*(cK t).1+1<=(cK t).1*max 1 d+1;rw[Rw];exact IP<|cU _<|by lia
 ·rw[<-hp.1];exact Nat.le_max_right _ _
def MR{a b:Tl}(h:CQ (.bin k a b))(ma:NN a)(mb:NN b):NN (.bin k a b):=by
 by_cases e:k=0;·subst e;have h2:min (10 ^ 40) ((cK a).2*(cK b).2)<=10 ^ 30:=h.2;refine⟨Ak ma.ko mb.ko,vY ma.kd mb.kd,ao (wf ma.ko mb.ko)<|ao (eV ma.nb mb.nb) ?_⟩;show _<=min (10 ^ 40) _;lia
 ·have e1:kr (.bin k a b)=dy (kr a) (kr b) (if k=2 then-1 else 1):=by show(if _ then _ else _)=_;rw[av e]
  have e2:cK (.bin k a b)=(max (cK a).1 (cK b).1,(cK a).2+(cK b).2):=by show(if _ then _ else _)=_;rw[av e]
  have hs:(if k=2 then-1 else 1:Int).natAbs=1:=by split<;>rfl
  refine⟨by rw[e1];exact(jt _ (λ_ _=>0) (kr b) (kr a) ma.ko mb.ko.keys).1,by rw[e1,e2];exact mQ _ _ _ (ma.kd.up<|by show _<=max _ _+1;lia)<|mb.kd.up<|by show _<=max _ _+1;lia,?_⟩;rw[e1,e2];exact ao (su _ hs _ _ ma.ko mb.ko.keys)<|Nat.add_le_add ma.nb mb.nb
def jI:∀t,CQ t->NN t
 |.leaf u,_=>JZ u|.pow t d,h=>MQ h<|jI t<|t7 h
 |.bin k a b,h=>MR h (jI a (dO h).1)<|jI b (dO h).2
def P7:10 ^ 30<2 ^ 1000:=aW (show 10 ^ 30<2 ^ 100 by decide)<|bM (by decide)<|by decide
def Hx{t:Tl}(h:CQ t):VB (2 ^ 999) (kr t):=Di<|ao (jI t h).nb<|ao h.2<|ao (show 10 ^ 30<=2 ^ 100 by decide)<|bM (by decide)<|by decide
def XW(t:Tr):Prop:=∃B,SH B/\(∀φ,bs B φ=ds (kr<|cl t) φ)/\∀UN,Runs (dP t) UN<|UN++[B]
def Ko(h:TR u):XW (.leaf u):=by
 have hs:∀UN,Runs [u] UN (UN++[NF u]):=λUN=>.cons (.atom h) .nil;refine⟨NF u,?_,λφ=>?_,hs⟩
 ·unfold NF;split;·exact QP
  ·split;·exact QO
   ·exact QQ _
 ·show _=ds (if _ then _ else _) φ;unfold NF;split;·rw[Q4,wb]
  ·split;·rw[Q3,wb]
   ·rw[Q5,wb]
def sB:∀t:Tr,IJ (cl t)->CQ (cl t)->XW t
 |.leaf u,l,_=>Ko l|.pow t d,l,h=>by obtain⟨B,WS,bB,rB⟩:=sB t l.1<|t7 h;have m:=jI (cl t)<|t7 h;have h9:=(t7 h).1;have h2:max (cK<|cl t).2 (xr (cK<|cl t).2 d)<=10 ^ 30:=h.2;have hp:=Ai (LG<|cl t) d (by lia);have hd:d<=9:=l.2;refine⟨uD B d,Eu B d,Al m.ko bB d,λUN=>(rB UN).app<|.cons (.pow ⟨λi hi=>⟨(nA (Eu B i) (Al m.ko bB i)<|tH m.kd i).sm ?_,Ba (Al m.ko bB i) (ao (pM m.ko m.nb i)<|hp.2 i<|by lia) P7⟩,(nA WS bB m.kd).sm<|by lia,Ba bB (ao m.nb (t7 h).2) P7⟩ hd) .nil⟩;have:i*(cK<|cl t).1<=9*9:=eV (by lia) h9;lia
 |.neg t,l,h=>by obtain⟨B,WS,bB,rB⟩:=sB t l.2.2 (dO h).2;have m:=jI (cl t) (dO h).2;have h9:=(dO h).2.1;refine⟨oC []<|wj B,v5 _ _,λφ=>?_,λUN=>(rB UN).app<|.cons (.neg<|(nA WS bB m.kd).sm<|by lia) .nil⟩;show _=ds (dy [(nk 0 0,uE [48])] (kr<|cl t) (-1)) φ;rw[A5,DN,bB,(jt (-1) φ (kr<|cl t) _ (oF 0 0 _) m.ko.keys).2,wb,show uE [48]=0 by decide];show(0:Int)+ -_=0*_+ -1*_;lia
 |.mul a b,l,h=>by obtain⟨A,Zg,bA,rA⟩:=sB a l.2.1 (dO h).1;obtain⟨B,WS,bB,rB⟩:=sB b l.2.2 (dO h).2;have ma:=jI (cl a) (dO h).1;have mb:=jI (cl b) (dO h).2;have h8:=(dO h).1.1;have h9:=(dO h).2.1;refine⟨jd A B,yp _ _,λφ=>?_,λUN=>(rA UN).app<|(rB<|UN++[A]).app<|.cons (.mul (st:=UN) ((nA Zg bA ma.kd).sm<|by lia) ((nA WS bB mb.kd).sm<|by lia) (Ba bA (ao ma.nb (dO h).1.2) P7)<|Ba bB (ao mb.nb (dO h).2.2) P7) .nil⟩;show _=ds (lw (kr<|cl a)<|kr<|cl b) φ;rw[Ct,bA,E1 ma.ko mb.ko];exact Ch _ λi k=>bB _
 |.add a b,l,h=>by obtain⟨A,Zg,bA,rA⟩:=sB a l.2.1 (dO h).1;obtain⟨B,WS,bB,rB⟩:=sB b l.2.2 (dO h).2;have ma:=jI (cl a) (dO h).1;have mb:=jI (cl b) (dO h).2;have h8:=(dO h).1.1;have h9:=(dO h).2.1;refine⟨oC A B,v5 _ _,λφ=>?_,λUN=>(rA UN).app<|(rB<|UN++[A]).app<|.cons (.add (st:=UN) ((nA Zg bA ma.kd).sm<|by lia)<|(nA WS bB mb.kd).sm<|by lia) .nil⟩;show _=ds (dy (kr<|cl a) (kr<|cl b) 1) φ;rw[A5,bA,bB,(jt 1 φ _ _ ma.ko mb.ko.keys).2];lia
 |.sub a b,l,h=>by obtain⟨A,Zg,bA,rA⟩:=sB a l.2.1 (dO h).1;obtain⟨B,WS,bB,rB⟩:=sB b l.2.2 (dO h).2;have ma:=jI (cl a) (dO h).1;have mb:=jI (cl b) (dO h).2;have h8:=(dO h).1.1;have h9:=(dO h).2.1;refine⟨oC A<|wj B,v5 _ _,λφ=>?_,λUN=>(rA UN).app<|(rB<|UN++[A]).app<|.cons (.sub (st:=UN) ((nA Zg bA ma.kd).sm<|by lia)<|(nA WS bB mb.kd).sm<|by lia) .nil⟩;show _=ds (dy (kr<|cl a) (kr<|cl b) (-1)) φ;rw[A5,DN,bA,bB,(jt (-1) φ _ _ ma.ko mb.ko.keys).2];lia
def Ib{t:Tr}(l:IJ (cl t))(h:CQ (cl t)):Runs (dP t) [] [nz<|kr<|cl t]:=by
 obtain⟨B,WS,bB,rB⟩:=sB t l h;have m:=jI _ h;have k2:TM 10 (kr<|cl t):=m.kd.up (by have:=h.1;lia);have eB:nz (kr<|cl t)=B:=FW (DO _) WS λi k=>by
  rw[AS,<-A6,bB];by_cases z:i<10/\k<10;·rw[ax z,Ny m.ko]
  ·rw[av z,DF (n:=10) (by lia) k2]
 rw[eB];exact rB []
structure A2(c a:Nat)(t:Tr)(e:Nat):Prop where
 lv:IJ (cl t)
 dt:2*dT (cl t)<=e-a+c
 lt:a<e
section
variable {sum:PR}
def KH{a:Nat}{e:Nat}(hs:∀a t e,sum a=(some t,e)->A2 2 a t e){t:Tr}(h:gQ sum T a=(some t,e)):A2 1 a t e:=by
 unfold gQ at h;split at h;·rename_i z;injection h with h1 h2;injection h1 with h1;subst h1;subst h2;exact⟨(sT _).mp z,by show 2*1<=_;lia,by lia⟩
 ·split at h
  ·split at h
   ·rename_i t' e' Ym;split at h;·injection h with h1 h2;injection h1 with h1;subst h1;subst h2;have A:=hs _ _ _ Ym;have l1:=A.lt;have l2:=A.dt;exact⟨A.lv,by lia,by lia⟩
    ·cases h
   ·cases h
  ·cases h
def NJ{a:Nat}{e:Nat}(hs:∀a t e,sum a=(some t,e)->A2 2 a t e){t:Tr}(h:tV sum T a=(some t,e)):A2 1 a t e:=by
 unfold tV at h;split at h
 ·rename_i t' e' hA;have A:=KH hs hA;have l1:=A.lt;have l2:=A.dt;split at h
  ·split at h;·rename_i z;injection h with h1 h2;injection h1 with h1;subst h1;subst h2;exact⟨⟨A.lv,(AA _<|cE z).2⟩,by show 2*(dT (cl t')+1)<=_;lia,by lia⟩
   ·cases h
  ·injection h with h1 h2;injection h1 with h1;subst h1;subst h2;exact A
 ·cases h
def OG:TR [48]:=(sT _).mp<|by decide
def IF{a:Nat}{e:Nat}(hs:∀a t e,sum a=(some t,e)->A2 2 a t e){t:Tr}(h:kL sum T a=(some t,e)):A2 2 a t e:=by
 unfold kL at h;split at h
 ·rename_i t' e' hA;have A:=NJ hs hA;have l1:=A.lt;have l2:=A.dt;split at h;·cases h
  ·injection h with h1 h2;injection h1 with h1;subst h1;subst h2;unfold ng;have d1:=Q2<|cl t';split;·rename_i q;refine⟨⟨ar _,OG,A.lv⟩,?_,by lia⟩;show 2*(max 1 (dT<|cl t')+1)<=_;lia
   ·exact⟨A.lv,by lia,by lia⟩
 ·cases h
def IE{a:Nat}(hs:∀a t e,sum a=(some t,e)->A2 2 a t e):∀(f:Nat)(t0:Tr)(e0:Nat)(t:Tr)(e:Nat),A2 2 a t0 e0->ni sum T a0 f t0 e0=(some t,e)->A2 2 a t e
 |0,t0,e0,t,e,A,h=>by injection h with h1 h2;injection h1 with h1;subst h1;subst h2;exact A
 |f+1,t0,e0,t,e,A,h=>by
  unfold ni at h;split at h
  ·split at h;·rename_i m e' hF;have F:=IF hs hF;have l1:=A.lt;have l2:=F.lt;have l3:=A.dt;have l4:=F.dt;exact IE hs f (.mul t0 m) e' t e ⟨⟨bR _,A.lv,F.lv⟩,by show 2*(max _ _+1)<=_;lia,by lia⟩ h
   ·cases h
  ·injection h with h1 h2;injection h1 with h1;subst h1;subst h2;exact A
def LK{a:Nat}{e:Nat}(hs:∀a t e,sum a=(some t,e)->A2 2 a t e){t:Tr}(h:wH sum T a=(some t,e)):A2 2 a t e:=by
 unfold wH at h;split at h;·rename_i t' e' hF;exact IE hs _ _ _ _ _ (IF hs hF) h
 ·cases h
def ID{a:Nat}(hs:∀a t e,sum a=(some t,e)->A2 2 a t e):∀(f:Nat)(t0:Tr)(e0:Nat)(t:Tr)(e:Nat),A2 2 a t0 e0->nh sum T a0 f t0 e0=(some t,e)->A2 2 a t e
 |0,t0,e0,t,e,A,h=>by injection h with h1 h2;injection h1 with h1;subst h1;subst h2;exact A
 |f+1,t0,e0,t,e,A,h=>by
  unfold nh at h;split at h
  ·split at h
   ·rename_i m e' hF;have F:=LK hs hF;have l1:=A.lt;have l2:=F.lt;have l3:=A.dt;have l4:=F.dt;refine ID hs f _ _ t e ⟨?_,?_,by lia⟩ h
    ·split;·exact⟨ar _,A.lv,F.lv⟩
     ·exact⟨by decide,A.lv,F.lv⟩
    ·split;·show 2*(max _ _+1)<=_;lia
     ·show 2*(max _ _+1)<=_;lia
   ·cases h
  ·injection h with h1 h2;injection h1 with h1;subst h1;subst h2;exact A
def Ph{a:Nat}{e:Nat}(hs:∀a t e,sum a=(some t,e)->A2 2 a t e){t:Tr}(h:HS sum T a=(some t,e)):A2 2 a t e:=by
 unfold HS at h;split at h;·rename_i t' e' hF;exact ID hs _ _ _ _ _ (LK hs hF) h
 ·cases h
end
def Pi(T:TK):∀(n a:Nat)(t:Tr)(e:Nat),g T n a=(some t,e)->A2 2 a t e
 |0,a,t,e,h=>by cases h
 |n+1,a,t,e,h=>Ph (Pi T n) h
def LA{u:bZ}{z:Str}(hz:z=S v):decide (S u=z)=decide (u=v):=bI.mpr ⟨λe=>fP<|e.trans hz,λe=>by rw[e,hz]⟩
def Hv{u:bZ}{z:Str}(hz:z=S v):(!(S u==z))= !decide (u=v):=by
 rw[hz];by_cases q:u=v;·subst q;simp
 ·rw[ak q,br.mpr λe=>q<|fP e]
def qX(t:At X N sc)(ha:Se X ρ a (.str<|S u))(hb:Se X ρ b (.str z))(hu:∀c∈u,c<128)(hz:z=S v)(hv:∀c∈v,c<128:=by decide):Sg X ρ (.Compare a [.Eq] [b] pos) (decide<|u=v):=Sg.eq (cf t ha hb (dA hu)<|by rw[hz];exact dA hv)<|LA hz
def nq(t:At X N sc)(ha:Se X ρ a (.str<|S u))(hb:Se X ρ b (.str z))(hu:∀c∈u,c<128)(hz:z=S v)(hv:∀c∈v,c<128:=by decide):Se X ρ (.Compare a [.Eq] [b] pos) (.bl<|decide<|u=v):=Se.eq (oR t ha hb (dA hu)<|by rw[hz];exact dA hv)<|by rw[LA hz]
def AJ(t:At X N sc)(ha:Se X ρ a (.str<|S u))(hb:Se X ρ b (.str z))(hu:∀c∈u,c<128)(hz:z=S v)(hv:∀c∈v,c<128:=by decide):Sg X ρ (.Compare a [.NotEq] [b] pos) (!decide (u=v)):=qW t ha.p hb.p (fV<|dA hu) (fV<|by rw[hz];exact dA hv)<|Hv hz
def Nq(t:At X N sc)(ha:Se X ρ a (.str<|S u))(hb:Se X ρ b (.str z))(hu:∀c∈u,c<128)(hz:z=S v)(hv:∀c∈v,c<128:=by decide):Se X ρ (.Compare a [.NotEq] [b] pos) (.bl (!decide (u=v))):=Dx t ha.p hb.p (fV<|dA hu) (fV<|by rw[hz];exact dA hv)<|Hv hz
def Qk:("":Str)=S []:=by decide
def Ql:("0":Str)=S [48]:=by decide
def Gq:(" ":Str)=S [32]:=by decide
def LQ:("x":Str)=S [120]:=by decide
def PN:("y":Str)=S [121]:=by decide
def N7:("(":Str)=S [40]:=by decide
def PP:(")":Str)=S [41]:=by decide
def gw(ds:aQ)(d:D):Prop:=∃u:bZ,ds=[.str<|S u]/\(∀c∈u,c<128)/\u.length<=20000/\d=.bl (qO u)
def qR:∀ds d,gw ds d->ds.length=1:=by rintro _ _ ⟨_,rfl,_⟩;rfl
def fC(ds:aQ)(d:D):Prop:=∃(T:TK)(i:Nat),ds=[.lst<|az T,.int i]/\d=.str (S<|cz T i)
def xP:∀ds d,fC ds d->ds.length=2:=by rintro _ _ ⟨_,_,rfl,_⟩;rfl
def JV(T:TK):Nat->Int|0=>0|i+1=>max (JV T i)<|dp T<|i+1
def Ap(T:TK)(n:Int)(hn:0<=n):∀i,JV T i<=n↔∀j,j<=i->dp T j<=n
 |0=>⟨λ_ j hj=>by rw[show j=0 by lia];exact hn,λ_=>hn⟩
 |i+1=>by
  have ih:=Ap T n hn i;show max (JV T i) (dp T<|i+1)<=n↔_;constructor
  ·intro h j hj;by_cases q:j<=i;·exact ih.mp (by lia) j q
   ·rw[show j=i+1 by lia];lia
  ·intro h;have h1:=ih.mpr λj hj=>h j (by lia);have h2:=h (i+1)<|ar _;lia
def pD(ds:aQ)(d:D):Prop:=∃T:TK,ds=[.lst<|az T,.str "(",.str ")"]/\(∀u∈T,∀c∈u,c<128)/\d=.int (JV T T.length)
def xO:∀ds d,pD ds d->ds.length=3:=by rintro _ _ ⟨_,rfl,_⟩;rfl
def kz(T:TK):(az T).length=T.length:=by unfold az;rw[aj]
def rL{T:TK}{i:Nat}(h:i<T.length):kS (az T) (i:Int)=some (.str<|S<|cz T i):=dJ<|by unfold az cz;rw[List.getElem?_map,List.getElem?_eq_getElem h,List.getD_eq_getElem?_getD,List.getElem?_eq_getElem h];rfl
def z7{T:TK}{i:Nat}(h:T.length<=i):cz T i=[]:=by unfold cz;rw[List.getD_eq_getElem?_getD,List.getElem?_eq_none h];rfl
def uc(h:DefX P w K mg base k jn (ai gs) X)(Sm:mg "len"=none)(Vk:mg "all"=none):Go X jn gs gw:=by
 rintro ds d ⟨u,rfl,lt,hl,rfl⟩;have t:=h.at';haveI:=h.S5;have b1:=h.bt Vk;have b2:=h.bt Sm;have hz:(S u).length<=sizeLine:=TN hl;have e0:(decide (u=[])||(decide (12<u.length)|| !u.all λc=>decide<|48<=c/\c<=57))= !(!u.isEmpty&&u.all (λc=>decide<|48<=c/\c<=57)&&decide (u.length<=12)):=by
  have a1:decide (u=[])=u.isEmpty:=by cases u<;>simp
  have a2:decide (12<u.length)= !decide (u.length<=12):=by by_cases q:u.length<=12<;>simp[q]<;>lia
  rw[a1,a2];cases u.isEmpty<;>cases u.all (λc=>decide<|48<=c/\c<=57)<;>cases decide (u.length<=12)<;>rfl
 have al:∀{p pos:Pos}{e:Expr},True:=trivial;show Sf X [.val<|.str<|S u] _ _;refine iT (u:=!(!u.isEmpty&&u.all (λc=>decide<|48<=c/\c<=57)&&decide (u.length<=12))) (Sg.eq (Dz (qX t (aa t 0) Sd lt Qk) (λ_=>Sg.eq (fg (dB t b2 (aa t 0) hz) af) (b':=decide<|12<u.length) ?_) λ_ _=>Sg.eq (nu<|jJ<|AI (bs:=u.map λx=>decide<|48<=x/\x<=57) t b1<|Ss.toQ<|Ss.eq (ka (rs:=(S u).cps.toList.map λx=>D.bl<|decide<|48<=x/\x<=57) t ["_law_mark_here","_law_sign"] (IV<|by decide) (DC (aa t 0)<|IH lt) (by unfold IT;rw[aj,eD];exact bH hl<|by decide) λX' cx=>?_) ?_) ?_) e0) (λv=>aw<|bg<|Se.eq Cb ?_) λv=>aw<|bg ?_;·rw[cq];simp only[bI];lia
 ·exact Tf.gen (λc=>D.str ⟨#[c]⟩) _ (λx=>[.val<|.str<|S u,.val<|.str ⟨#[x]⟩]) _ _ (λx hx=>df cx.at' 1) (λx hx y hy=>df cx.at' 1) λx hx=>AF (aa cx.at' 1 rfl) Sd<|by rw[eD]at hx;exact wJ x<|lt x hx
 ·rw[eD,cj];rfl
 ·rw[Gj];rfl
 ·unfold qO;cases q:(!u.isEmpty&&u.all (λc=>decide<|48<=c/\c<=57)&&decide (u.length<=12))with
  |true=>rw[q]at v;cases v
  |false=>rfl
 ·have q:(!u.isEmpty&&u.all (λc=>decide<|48<=c/\c<=57)&&decide (u.length<=12))=true:=by cases q:(!u.isEmpty&&u.all (λc=>decide<|48<=c/\c<=57)&&decide (u.length<=12))with|true=>rfl|false=>rw[q]at v;cases v
  obtain⟨c,cs,rfl⟩:∃c cs,u=c::cs:=by
   cases u with
   |nil=>cases q
   |cons c cs=>exact⟨c,cs,rfl⟩
  refine Se.eq (H8 (nq t (aa t 0) Sd lt Ql) λ_=>Nq (u:=[c]) t (c9 (c:=c) (aa t 0) af hz<|by rw[eD];exact dJ (j:=0) rfl) Sd (λx hx=>lt x<|by simp at hx;simp[hx]) Ql) ?_;unfold qO;rw[q,CT];congr 2;by_cases y:c=48<;>simp[y]
def CF(h:DefX P w K mg base k pi (ai lq) X)(Sm:mg "len"=none):Go X pi lq fC:=by
 rintro ds d ⟨T,i,rfl,rfl⟩;have t:=h.at';haveI:=h.S5;have b2:=h.bt Sm;show Sf X [.val<|.lst<|az T,.val<|.int i] _ _;refine iT (u:=decide<|i<T.length) (Sg.eq (fZ (aa t 1)<|eC t b2<|Se.ql<|aa t 0) ?_) (λv=>aw<|bg<|aY (Se.ql<|aa t 0) (aa t 1)<|rL<|cE v) λv=>aw<|bg<|Se.eq Sd ?_;·rw[kz];simp only[bI];lia
 ·rw[z7<|by have:=cp v;lia,Qk]
def CD(h:DefX P w K mg base k ph (ai ll) X)(Th:mg "int"=none)(UT:mg "max"=none):Go X ph ll pD:=by
 rintro ds d ⟨T,rfl,lt,rfl⟩;have t:=h.at';haveI:=h.S5;have b1:=h.bt Th;have b2:=h.bt UT;show Sf X [.val<|.lst<|az T,.val<|.str "(",.val<|.str ")",.un,.un,.un] _ _;refine au (aX t 3 af)<|au (aX t 4 af)<|au (ik t (qZ<|aa t 0)<|SJ.SY (ρ':=[.val<|.lst<|az T,.val<|.str "(",.val<|.str ")",.val<|.int<|dp T T.length,.val<|.int<|JV T T.length,.un]) (λi=>[.val<|.lst<|az T,.val<|.str "(",.val<|.str ")",.val<|.int<|dp T i,.val<|.int<|JV T i,.un]) (λj d e=>?_) rfl<|by rw[kz])<|aw<|bg<|aa t 4;have hj:j<T.length:=by have:=(List.getElem?_eq_some_iff.mp e).1;rwa[kz]at this
 have ed:d=.str (S<|cz T j):=by have:=rL hj;have e2:kS (az T) (j:Int)=some d:=dJ e;rw[e2]at this;injection this
 subst ed;have hc:∀c∈cz T j,c<128:=by
  rcases pI (T:=T) (a:=j)with z |z;·exact lt _ z
  ·rw[z];exactλc hc=>nomatch hc
 have et:dp T (j+1)=dp T j+(if decide (cz T j=[40])then 1 else 0)-(if decide (cz T j=[41])then 1 else 0):=by
  by_cases q1:cz T j=[40];·rw[sI q1,q1];show _=dp T j+1-0;lia
  ·by_cases q2:cz T j=[41];·rw[E2 q2,q2];show _=dp T j+0-1;lia
   ·rw[gb hj q1 q2,ak q1,ak q2];show _=dp T j+0-0;lia
 refine⟨_,bv t 5,Sf.weak (au (aX t 3<|Se.eq (jj (bK (aa t 3)<|gX t b1<|nq t (aa t 5) (aa t 1) hc N7)<|gX t b1<|nq t (aa t 5) (aa t 2) hc PP)<|aV D.int et.symm)<|aw<|aX t 4<|lz t b2 (aa t 4)<|aa t 3)<|.keep<|.keep<|.keep<|.keep<|.keep<|.forget .nil⟩
def SG:Str:="abcdefghijklmnopqrstuvwxyz0123456789"
def lo(c:Nat):Bool:=decide<|(97<=c/\c<=122)\/(48<=c/\c<=57)
def wn:∀c:Nat,c<128->(!(Builtin.Str.occurrences SG (S [c]) 0 SG.length 1).isEmpty)=lo c:=by decide
def LD:TK:=[[60,61],[62,61],[33,61]]
def O8:([D.str "<=",.str ">=",.str "!="]:aQ)=az LD:=by unfold az LD;rw[show("<=":Str)=S [60,61]by decide,show(">=":Str)=S [62,61]by decide,show("!=":Str)=S [33,61]by decide];rfl
inductive LM:bZ->bZ->TK->Prop where
 |sp {cs:bZ}:LM [32] cs []
 |run {u cs:bZ}:u≠[]->(∀c∈u,lo c=true)->(∀c,cs.head?=some c->lo c=false)->LM u cs [u]
 |dbl {c:Nat} {cs:bZ}:(c=60\/c=62\/c=33)->LM [c,61] cs [[c,61]]
 |one {c:Nat} {cs:bZ}:lo c=false->c≠32->¬((c=60\/c=62\/c=33)/\cs.head?=some 61)->LM [c] cs [[c]]
inductive Mk:bZ->TK->Prop where
 |nil:Mk [] []
 |turn {p cs:bZ} {ts us:TK}:LM p cs ts->Mk cs us->Mk (p++cs) (ts++us)
def LM.ne(h:LM p cs ts):p≠[]/\ts.length<=(p.filter λc=>decide<|c≠32).length/\(∀u∈ts,u=p):=by
 cases h with
 |sp=>exact⟨by simp,by simp,λu hu=>nomatch hu⟩
 |run h h2 _=>
  refine⟨h,?_,λu hu=>by simpa using hu⟩;obtain⟨c,u',rfl⟩:∃c u',p=c::u':=by cases p with|nil=>exact absurd rfl h|cons c cs=>exact⟨c,cs,rfl⟩
  have hc:c≠32:=λe=>by have:=h2 c (by simp);rw[e]at this;exact absurd this<|by decide
  simp[nQ,hc]
 |@dbl c _ hc=>
  have:c≠32:=by lia
  exact⟨by simp,by simp[nQ,this],λu hu=>by simpa using hu⟩
 |@one c _ _ hc _=>exact⟨by simp,by simp[nQ,hc],λu hu=>by simpa using hu⟩
def Lu(p:bZ):(p.filter λc=>decide<|c≠32).length<=p.length:=yi _ _
def Mk.nb(h:Mk cs T):T.length<=(cs.filter λc=>decide<|c≠32).length:=by induction h with|nil=>simp|turn l _ ih=>have:=l.ne.2.1;rw[List.filter_append,aq,aq];lia
def Mk.mem(h:Mk cs T):∀u∈T,u≠[]/\(∀c∈u,c∈cs)/\u.length<=cs.length:=by
 induction h with
 |nil=>intro u hu;exact nomatch hu
 |@turn p cs ts us l _ ih=>
  intro u hu;rcases List.mem_append.mp hu with hu |hu;·have e:=l.ne.2.2 u hu;subst e;exact⟨l.ne.1,λc hc=>eY _ hc,by simp⟩
  ·have:=ih u hu;exact⟨this.1,λc hc=>aB _<|this.2.1 c hc,by rw[aq];lia⟩
def Jj(cs:bZ):∃u r,cs=u++r/\(∀c∈u,lo c=true)/\(∀c,r.head?=some c->lo c=false):=by
 induction cs with
 |nil=>exact⟨[],[],rfl,(λc h=>nomatch h),λc h=>nomatch h⟩
 |cons c cs ih=>
  by_cases h:lo c=true
  ·obtain⟨u,r,e,h1,h2⟩:=ih;refine⟨c::u,r,by rw[e];rfl,λd hd=>?_,h2⟩;rcases List.mem_cons.mp hd with rfl |hd;·exact h
   ·exact h1 d hd
  ·exact⟨[],c::cs,rfl,(λc h=>nomatch h),λd hd=>by cases hd;simpa using h⟩
def Dl:∀(n:Nat)(cs:bZ),cs.length<=n->∃T,Mk cs T
 |_,[],_=>⟨[],.nil⟩|0,c::cs,h=>by simp at h
 |n+1,c::cs,h=>by
  have go:∀{p r:bZ}{ts:TK},c::cs=p++r->LM p r ts->∃T,Mk (c::cs) T:=λ{p r ts}e l=>by have hp:=List.length_pos_iff.mpr l.ne.1;have hl:=aV List.length e;rw[aq]at hl;obtain⟨us,q⟩:=Dl n r (by simp at hl h;lia);exact⟨_,by rw[e];exact .turn l q⟩
  by_cases ha:lo c=true
  ·obtain⟨u,r,e,h1,h2⟩:=Jj cs;exact go (p:=c::u) (r:=r) (by rw[e];rfl) (.run (by simp) (λd hd=>by
    rcases List.mem_cons.mp hd with rfl |hd;·exact ha
    ·exact h1 d hd) h2)
  ·have ha':lo c=false:=by simpa using ha
   by_cases h0:c=32;·subst h0;exact go (p:=[32]) (r:=cs) rfl .sp
   ·by_cases hd:(c=60\/c=62\/c=33)/\cs.head?=some 61
    ·obtain⟨r,er⟩:∃r,cs=61::r:=by
      cases cs with
      |nil=>cases hd.2
      |cons x r=>have:=hd.2;simp at this;subst this;exact⟨r,rfl⟩
     exact go (p:=[c,61]) (r:=r) (by rw[er];rfl)<|.dbl hd.1
    ·exact go (p:=[c]) (r:=cs) rfl<|.one ha' h0 hd
def Pg:∀c:Nat,c<128->lo c=true->al c=true:=by decide
def Pf:∀c:Nat,c<128->al c=true->lo c=false->65<=c/\c<=90:=by decide
def Lk{c:Nat}(hc:c<128)(h:al c=false):lo c=false:=by cases e:lo c with|false=>rfl|true=>rw[Pg c hc e]at h;cases h
def Jv(h:UA u):∀c∈u,lo c=true:=by
 rcases h with h |h;·exactλc hc=>ap<|.inr<|h.2.1 c hc
 ·have:∀u∈IS,∀c∈u,lo c=true:=by decide
  exact this u h
def Lq{cs:bZ}(ha:∀c∈cs,c<128)(h:∀c,cs.head?=some c->al c=false):∀c,cs.head?=some c->lo c=false:=λc e=>Lk (ha c<|List.mem_of_mem_head?<|by rw[e];rfl)<|h c e
def LT.lm(h:LT p cs ts)(ha:∀c∈p++cs,c<128):LM p cs ts:=by
 cases h with
 |sp=>exact .sp|run h1 h2=>exact .run h1.ne (Jv h1)<|Lq (λc hc=>ha c<|aB _ hc) h2
 |@sign c _ h1 h2 h3=>
  refine .one (Lk (ha c<|by simp) h1) h2 λz=>?_;rcases h3 with h3 |h3
  ·rcases z.1 with z |z |z;·exact h3.1 z
   ·exact h3.2.1 z
   ·exact h3.2.2 z
  ·exact h3.2 z.2
 |dbl h=>exact .dbl h
def Lx.mk(h:Lx cs T):(∀c∈cs,c<128)->Mk cs T:=by
 induction h with
 |nil=>exactλ_=>.nil
 |turn l _ ih=>exactλha=>.turn (l.lm ha) (ih λc hc=>ha c<|aB _ hc)
def Mk.up(h:Mk cs T):∀c∈cs,65<=c->c<=90->[c]∈T:=by
 induction h with
 |nil=>intro c hc;exact nomatch hc
 |@turn p cs ts us l _ ih=>
  intro c hc h1 h2;rcases List.mem_append.mp hc with hc |hc
  ·cases l with
   |sp=>simp at hc;lia|run _ h3 _=>have:=cE<|h3 c hc;lia
   |dbl h3=>simp at hc;lia|one _ _ _=>simp at hc;subst hc;simp
  ·exact aB _<|ih c hc h1 h2
def Xj.mk(h:Xj cs):(∀c∈cs,c<128)->∃T,Mk cs T/\∃u∈T,¬PY u:=by
 induction h with
 |@bad u cs h1 h2 h3 h4=>
  intro ha;by_cases q:∀c∈u,lo c=true
  ·obtain⟨T,hT⟩:=Dl cs.length cs<|ar _;refine⟨[u]++T,.turn (.run h1 q<|Lq (λc hc=>ha c<|aB _ hc) h3) hT,u,by simp,λz=>?_⟩;rcases z with z |z;·exact h4<|TR.v<|(sT u).mp z
   ·have:∀u∈([[40],[41],[42],[43],[45],[94]]:TK),∃c∈u,lo c=false:=by decide
    obtain⟨c,hc,e⟩:=this u z;rw[q c hc]at e;cases e
  ·obtain⟨T,hT⟩:=Dl (u++cs).length (u++cs)<|ar _;obtain⟨c,q⟩:=Classical.not_forall.mp q;have hc:c∈u:=N2 λz=>q λy=>absurd y z;have e:lo c=false:=by cases e:lo c with|false=>rfl|true=>exact absurd (λ_=>e) q
   have up:=Pf c (ha c<|eY _ hc) (h2 c hc) e;refine⟨T,hT,[c],hT.up c (eY _ hc) up.1 up.2,λz=>?_⟩;rcases z with z |z
   ·rcases(sT _).mp z with z |z |z;·have:=z.2.1 c (by simp);lia
    ·cases z;lia
    ·cases z;lia
   ·simp at z;lia
 |@turn p cs ts l _ ih=>intro ha;obtain⟨T,hT,u,hu,hn⟩:=ih λc hc=>ha c<|aB _ hc;exact⟨ts++T,.turn (l.lm ha) hT,u,aB _ hu,hn⟩
def nO(ds:aQ)(d:D):Prop:=∃(cs:bZ)(T:TK),ds=[.str<|S cs]/\Mk cs T/\(∀c∈cs,c<128)/\cs.length<=20000/\d=.lst (az T)
def wx:∀ds d,nO ds d->ds.length=1:=by rintro _ _ ⟨_,_,rfl,_⟩;rfl
def RW(T1:List Stmt)(i:Nat):Expr:=match T1[i]? with|some (.If _ _ [.If c _ _ _] _)=>c|_=>.Constant .none 0 ⟨0,0,0,0⟩
def Gv(R:Nat->cA)(n:Nat)(h:∀i,i<n->Sg X (R i) c true/\Sf X (R i) body (.nx<|R<|i+1))(hn:Sg X (R n) c false):∀(k i:Nat),i+k=n->T3 X c body k (R i) (.nx<|R n)
 |0,i,e=>by
  have e':i=n:=by lia
  subst e';exact .stop hn
 |k+1,i,e=>.step (h i<|by lia).1 (h i<|by lia).2<|Gv R n h hn k (i+1)<|by lia
def Pq{pre r:bZ}{i j:Int}{n:Nat}(hi:i=(pre.length:Nat))(hj:j=((pre.length+n:Nat):Int)):Txt.slice (S<|pre++r) (some i) (some j)=S (r.take n):=by rw[hi,hj,sL (by lia)<|by rw[cq];simp,eD,List.drop_left,Nat.add_sub_cancel_left];rfl
def J0{pre:bZ}{done:TK}[Vh X](t:At X iW (ai cD))(b1:mf X (ai cD) "len" (.builtin "len")){x:Sl}(l:LM p UL ts)(ha:∀c∈pre++(p++UL),c<128)(hz:(pre++(p++UL)).length<=20000)(hd:done.length<=20000):Sf X [.val<|.str<|S<|pre++(p++UL),.own<|az done,.val<|.int pre.length,.val<|.str SG,x] (uZ (aD cD) 3).2 (.nx [.val<|.str<|S<|pre++(p++UL),.own<|az<|done++ts,.val<|.int (pre++p).length,.val<|.str SG,.val<|.int (pre++p).length]):=by
 obtain⟨c,p',rfl⟩:∃c p',p=c::p':=by cases p with|nil=>exact absurd rfl l.ne.1|cons c cs=>exact⟨c,cs,rfl⟩
 have hs:=TN hz;have hc:c<128:=ha c (by simp);have W2:kS (S<|pre++((c::p')++UL)).cps.toList (pre.length:Int)=some c:=q9 (pre:=pre) (post:=p'++UL) (c:=c);have el:(((pre++(c::p')).length:Nat):Int)=((pre.length+(c::p').length:Nat):Int):=by rw[aq]
 have tail:∀{T1:List Stmt},T1=(uZ (aD cD) 3).2.drop 2->Sf X [.val<|.str<|S<|pre++((c::p')++UL),.own<|az done,.val<|.int pre.length,.val<|.str SG,.val<|.int (pre++(c::p')).length] T1 (.nx [.val<|.str<|S<|pre++((c::p')++UL),.own<|az<|done++ts,.val<|.int (pre++(c::p')).length,.val<|.str SG,.val<|.int (pre++(c::p')).length]):=by
  rintro _ rfl;by_cases h0:c=32
  ·have ets:ts=[]:=by
    subst h0;cases l with
    |sp=>rfl|run _ h2 _=>exact absurd (h2 32<|by simp)<|by decide
    |dbl h=>lia|one _ h _=>exact absurd rfl h
   subst ets;rw[bC];exact au (cB (Sg.eq (AJ (u:=[c]) t (c9 (c:=c) (aa t 0) (aa t 2) hs W2) Sd (λx hx=>by simp at hx;lia) Gq)<|by rw[h0];rfl) bQ)<|aw<|aX t 2<|aa t 4
  ·have ets:ts=[c::p']:=by
    cases l with
    |sp=>exact absurd rfl h0|run _ h2 _=>rfl
    |dbl h=>rfl|one _ h _=>rfl
   subst ets;refine au (ρ':=[.val<|.str<|S<|pre++((c::p')++UL),.own<|az<|done++[c::p'],.val<|.int pre.length,.val<|.str SG,.val<|.int (pre++(c::p')).length]) (dD (Sg.eq (AJ (u:=[c]) t (c9 (c:=c) (aa t 0) (aa t 2) hs W2) Sd (λx hx=>by simp at hx;lia) Gq)<|by rw[ak λz=>h0<|by cases z;rfl];rfl)<|aw<|SQ.eq (mz t 1 rfl (nt (aa t 0) (aa t 2) (aa t 4) hs)<|by rw[kz];exact bH hd<|by decide) ?_)<|aw<|aX t 2<|aa t 4;rw[Pq (n:=(c::p').length) rfl el,List.take_left];unfold az;simp
 refine au (aX t 4<|bK (aa t 2) af) ?_;show Sf X [.val<|.str<|S<|pre++((c::p')++UL),.own<|az done,.val<|.int pre.length,.val<|.str SG,.val<|.int<|(pre.length:Int)+1] _ _;by_cases WC:lo c=true
 ·have hr:(∀d∈p',lo d=true)/\∀d,UL.head?=some d->lo d=false:=by
   cases l with
   |sp=>exact absurd WC (by decide)|run _ h2 h3=>exact⟨λd hd=>h2 d<|by simp[hd],h3⟩
   |dbl h=>rcases h with rfl |rfl |rfl<;>exact absurd WC<|by decide
   |one h _ _=>rw[h]at WC;cases WC
  refine au (dD (Sg.eq (lS (c9 (c:=c) (aa t 0) (aa t 2) hs W2) (aa t 3)<|wn c hc) WC)<|aw<|fE t ⟨p'.length,Gv (λi=>[.val<|.str<|S<|pre++((c::p')++UL),.own<|az done,.val<|.int pre.length,.val<|.str SG,.val<|.int<|(pre.length:Int)+1+(i:Int)]) p'.length (λi hi=>?_) ?_ p'.length 0<|by lia⟩) ?_
  ·obtain⟨u1,d,u2,rfl,rfl⟩:∃u1 d u2,p'=u1++d::u2/\i=u1.length:=⟨p'.take i,p'[i],p'.drop<|i+1,by simp,by simp;lia⟩;have VR:d<128:=ha d (by simp);refine⟨Sg.eq (eQ (fZ (aa t 4)<|dB t b1 (aa t 0) hs) λ_=>lS (c9 (c:=d) (aa t 0) (aa t 4) hs ?_) (aa t 3)<|wn d VR) ?_,aw<|SQ.eq (aX t 4<|bK (aa t 4) af) ?_⟩
   ·have:=q9 (pre:=pre++(c::u1)) (post:=u2++UL) (c:=d);have e2:((pre++(c::u1)).length:Int)=(pre.length:Int)+1+(u1.length:Int):=by rw[aq,bp];lia
    rw[e2]at this;simpa using this
   ·rw[cq,hr.1 d<|by simp,CU,bj];simp;lia
   ·show(Out.nx [_,_,_,_,.val<|.int<|(pre.length:Int)+1+(u1.length:Int)+1])=.nx [_,_,_,_,.val<|.int<|(pre.length:Int)+1+((u1.length+1:Nat):Int)];rw[show(pre.length:Int)+1+(u1.length:Int)+1=(pre.length:Int)+1+((u1.length+1:Nat):Int)by lia]
  ·cases UL with
   |nil=>exact Sg.eq (eQ (v:=true) (fZ (aa t 4)<|dB t b1 (aa t 0) hs) λz=>by rw[cq,bj]at z;simp at z;lia)<|by rw[cq,CU,aK];simp;lia
   |cons d r=>
    refine Sg.eq (eQ (fZ (aa t 4)<|dB t b1 (aa t 0) hs) λ_=>lS (c9 (c:=d) (aa t 0) (aa t 4) hs ?_) (aa t 3)<|wn d<|ha d<|by simp) ?_
    ·have:=q9 (pre:=pre++(c::p')) (post:=r) (c:=d);have e2:((pre++(c::p')).length:Int)=(pre.length:Int)+1+(p'.length:Int):=by rw[aq,bp];lia
     rw[e2]at this;simpa using this
    ·rw[hr.2 d rfl,Bw]
  ·have e2:(pre.length:Int)+1+(p'.length:Int)=((pre++(c::p')).length:Int):=by rw[aq,bp];lia
   show Sf X [_,_,_,_,.val<|.int<|(pre.length:Int)+1+(p'.length:Int)] _ _;rw[e2];exact tail rfl
 ·have ZE:lo c=false:=by simpa using WC
  have c2:Sg X [.val<|.str<|S<|pre++((c::p')++UL),.own<|az done,.val<|.int pre.length,.val<|.str SG,.val<|.int<|(pre.length:Int)+1] (RW (uZ (aD cD) 3).2 1) (decide<|((c::p')++UL).take 2∈LD):=jQ t (Se.eq (nt (aa t 0) (aa t 2) (bK (aa t 2) af) hs)<|aV D.str<|Pq (n:=2) rfl<|by lia) (aF<|ac Sd<|ac Sd<|ac Sd ah) (dN (dA λx hx=>ha x<|aB _<|cg hx)) (dk _) (by decide) (by rw[O8];exact jX _ _);by_cases hb:((c::p')++UL).take 2∈LD
  ·have ep:p'=[61]:=by
    cases l with
    |sp=>exact absurd hb (by cases UL<;>simp[LD])|run _ h2 _=>exact absurd (h2 c<|by simp) WC
    |dbl h=>rfl|one _ _ h=>exfalso;apply h;cases UL with|nil=>simp[LD]at hb|cons d r=>simp[LD]at hb;simp;lia
   subst ep;refine au (cB (Sg.eq (lS (c9 (c:=c) (aa t 0) (aa t 2) hs W2) (aa t 3)<|wn c hc) ZE)<|aw<|dD (Sg.eq c2<|ap hb)<|aw<|aX t 4<|bK (aa t 2) af) ?_;have e2:(pre.length:Int)+2=((pre++[c,61]).length:Int):=by rw[aq];rfl
   show Sf X [_,_,_,_,.val<|.int<|(pre.length:Int)+2] _ _;rw[e2];exact tail rfl
  ·have ep:p'=[]:=by
    cases l with
    |sp=>rfl|run _ h2 _=>exact absurd (h2 c<|by simp) WC
    |dbl h=>exact absurd (by simp[LD];exact h) hb|one _ _ h=>rfl
   subst ep;refine au (cB (Sg.eq (lS (c9 (c:=c) (aa t 0) (aa t 2) hs W2) (aa t 3)<|wn c hc) ZE)<|aw<|cB (Sg.eq c2<|ak hb) bQ) ?_;have e2:(pre.length:Int)+1=((pre++[c]).length:Int):=by rw[aq];rfl
   show Sf X [_,_,_,_,.val<|.int<|(pre.length:Int)+1] _ _;rw[e2];exact tail rfl
def MS{cs:bZ}{bJ:bZ}[Vh X](t:At X iW (ai cD))(b1:mf X (ai cD) "len" (.builtin "len"))(ha:∀c∈cs,c<128)(hz:cs.length<=20000)(hl:Mk bJ us):∀(pre:bZ)(done:TK)(x:Sl),cs=pre++bJ->done.length<=pre.length->∃m y,T3 X (uZ (aD cD) 3).1 (uZ (aD cD) 3).2 m [.val<|.str<|S cs,.own<|az done,.val<|.int pre.length,.val<|.str SG,x] (.nx [.val<|.str<|S cs,.own<|az<|done++us,.val<|.int cs.length,.val<|.str SG,y]):=by have test:∀(pre:bZ)(done:TK)(x:Sl),Sg X [.val<|.str<|S cs,.own<|az done,.val<|.int pre.length,.val<|.str SG,x] (uZ (aD cD) 3).1 (decide<|pre.length<cs.length):=λpre done x=>Sg.eq (fZ (aa t 2)<|dB t b1 (aa t 0)<|TN hz) (by rw[cq];simp);induction hl with|nil=>intro pre done x e hd;rw[bC]at e;subst e;exact⟨0,x,by rw[bC];exact .stop<|Sg.eq (test cs done x)<|ak<|by lia⟩|@turn p r ts us l _ ih=>intro pre done x e hd;have lp:=List.length_pos_iff.mpr l.ne.1;have lt2:=l.ne.2.1;have lt3:=Lu p;subst e;obtain⟨m,y,run⟩:=ih (pre++p) (done++ts) (.val<|.int (pre++p).length) (by rw[bf]) (by simp;lia);rw[bf]at run;exact⟨m+1,y,.step (Sg.eq (test pre done x)<|ap<|by simp;lia) (J0 t b1 l ha hz<|by rw[aq]at hz;lia) run⟩
def Bi(h:DefX P w K mg base k iW (ai cD) X)(Sm:mg "len"=none):Go X iW cD nO:=by rintro ds r ⟨cs,T,rfl,hl,ha,hz,rfl⟩;have t:=h.at';haveI:=h.S5;have b1:=h.bt Sm;obtain⟨m,y,run⟩:=MS t b1 ha hz hl [] [] .un rfl<|ar _;show Sf X [.val<|.str<|S cs,.un,.un,.un,.un] _ _;exact au (iH t 1<|bE ah)<|au (aX t 2 af)<|au (aX (d:=.str SG) t 3 Sd)<|au (fE t ⟨m,run⟩)<|eE 1 rfl<|aw<|bg<|aa t 1
def Df:mK X (compareOp .NotIn) (λx y H Q=>∃i j,x=.str i/\y=.str j/\Q (.bl (!(!(Builtin.Str.occurrences j i 0 j.length 1).isEmpty))) H):=by intro pins s σ H x y v u Q I rx ry h;obtain⟨i,j,rfl,rfl,q⟩:=h;obtain⟨t,rfl⟩:=rx;obtain⟨t',rfl⟩:=ry;exact P.notIn_str<|cL I q rfl
def ES{r:Bool}(ha:Se X ρ a (.str z))(hb:Se X ρ b (.str w))(hr:(!(Builtin.Str.occurrences w z 0 w.length 1).isEmpty)=r)(hm:behindInMarks .NotIn b=false:=by rfl):Sg X ρ (.Compare a [.NotIn] [b] pos) (!r):=.of (fY Df aR aR hm) λB F H σ Q k q=>two ha hb k λx y F' H' x' rx ry=>by cases rx;cases ry;subst hr;exact⟨z,w,rfl,rfl,_,rfl,q F' H' x'⟩
structure Xk(T:TK):Prop where
 lt:∀u∈T,∀c∈u,c<128
 len:∀u∈T,u.length<=20000
 deep:∀i,i<=T.length->dp T i<=20
def Xk.c(h:Xk T)(a:Nat):∀c∈cz T a,c<128:=by
 rcases pI (T:=T) (a:=a)with z |z;·exact h.lt _ z
 ·rw[z];exactλc hc=>nomatch hc
def Xk.l(h:Xk T)(a:Nat):(cz T a).length<=20000:=by
 rcases pI (T:=T) (a:=a)with z |z;·exact h.len _ z
 ·rw[z];decide
def nW:Option Tr->D|none=>.Sy|some t=>sY<|cl t
def xt(r:Option Tr×Nat):D:=.tup [nW r.1,.int r.2]
def LC(G:TK->Nat->PR)(n:Nat)(ds:aQ)(d:D):Prop:=∃(T:TK)(a:Nat),ds=[.lst<|az T,.int a]/\Xk T/\dp T a+n=21/\d=xt (G T n a)
def LC.len{G:TK->Nat->PR}:∀ds d,LC G n ds d->ds.length=2:=by rintro _ _ ⟨_,_,rfl,_⟩;rfl
def oK(t:Tr):EJ (nW<|some t)=false:=by cases t<;>rfl
def D4:([D.str "x",.str "y"]:aQ)=az [[120],[121]]:=by unfold az;rw[LQ,PN];rfl
def Bx:("-":Str)=S [45]:=by decide
def Jb:("^":Str)=S [94]:=by decide
def Qi:("*":Str)=S [42]:=by decide
def Qj:("+":Str)=S [43]:=by decide
def ub(h:DefX P w K mg base k Tp (ai gr) X)(c1:EV.Callee X "_law_mark" fC)(c2:EV.Callee X "_law_is_number" gw)(c3:EV.Callee X "_law_tree_sum" (LC g n)):∀ds d,LC GA (n+1) ds d->Sf X (ds.map Sl.val++List.replicate (Tp.length-ds.length) Sl.un) (aD gr) (.rt d):=by
 rintro ds d ⟨T,a,rfl,ok,hd,rfl⟩;have t:=h.at';haveI:=h.S5;have hc:=ok.c a;have cw:PyData.canLayAll0 (Sq [D.str "x",.str "y"])=true:=by decide
 show Sf X [.val<|.lst<|az T,.val<|.int a,.un,.un,.un] _ (.rt<|xt<|gQ (g T n) T a);refine au (aX t 2<|aG t c1 (ac (aa t 0)<|ac (aa t 1) ah) ⟨T,a,rfl,rfl⟩) ?_;refine iT (u:=xh<|cz T a) (Sg.eq (fG (jJ<|aG t c2 (ac (aa t 2) ah) ⟨_,rfl,hc,ok.l a,rfl⟩) λ_=>jQ (r:=decide<|cz T a∈[[120],[121]]) t (aa t 2) (aF<|ac Sd<|ac Sd ah) (dN<|dA hc) (dk _) cw<|by rw[D4];exact jX _ _) ?_) (λv=>aw<|bg<|Se.eq (aF<|ac (aF<|ac Sd<|ac (aa t 2) ah)<|ac (bK (aa t 1) af) ah) ?_) λv=>?_;·unfold xh;congr 1;by_cases q1:cz T a=[120]<;>by_cases q2:cz T a=[121]<;>simp[q1,q2]
 ·unfold gQ;rw[ax v];rfl
 refine iT (AJ t (aa t 2) Sd hc N7) (λv2=>aw<|bg<|Se.eq (aF<|ac gh<|ac (aa t 1) ah) ?_) λv2=>?_;·unfold gQ;rw[av<|by rw[v];exact ay,av<|by simpa using v2];rfl
 have hp:cz T a=[40]:=by simpa using v2
 have e1:((a:Int)+1)=((a+1:Nat):Int):=by lia
 have eg:gQ (g T n) T a=(match g T n (a+1)with |(some t,e)=>if cz T e=[41]then(some t,e+1)else(none,a) |(none,_)=>(none,a)):=by unfold gQ;rw[av<|by rw[v];exact ay,ax hp]
 rw[eg];refine au (la t (d:=xt<|g T n<|a+1) (aG t c3 (ac (aa t 0)<|ac (Se.eq (bK (aa t 1) af)<|aV D.int e1) ah) ⟨T,a+1,rfl,ok,by rw[sI hp];lia,rfl⟩)<|gG t<|bN (bv t 3)<|bN (bv t 4) fx) ?_;show Sf X [.val<|.lst<|az T,.val<|.int a,.val<|.str<|S<|cz T a,.val<|nW (g T n<|a+1).1,.val<|.int (g T n<|a+1).2] _ _;cases g T n (a+1)with
 |mk o e=>
  cases o with
  |none=>exact iT (Sg.eq (fG (u:=true) (v:=false) (Sg.eq (iS<|aa (d:=.Sy) t 3 rfl) rfl) λz=>nomatch z) rfl) (λ_=>aw<|bg<|aF<|ac gh<|ac (aa t 1) ah) λz=>nomatch z
  |some tr=>
   refine iT (u:=!decide (cz T e=[41])) (Sg.eq (fG (Sg.eq (iS<|aa t 3)<|oK tr) λ_=>AJ t (aG t c1 (ac (aa t 0)<|ac (aa t 4) ah) ⟨T,e,rfl,rfl⟩) Sd (ok.c e) PP)<|iz _) (λq=>aw<|bg<|Se.eq (aF<|ac gh<|ac (aa t 1) ah) ?_) λq=>aw<|bg<|Se.eq (aF<|ac (aa t 3)<|ac (bK (aa t 4) af) ah) ?_;·show _=xt (if cz T e=[41]then _ else _);rw[av<|by simpa using q];rfl
   ·show _=xt (if cz T e=[41]then _ else _);rw[ax<|by simpa using q];rfl
def Km{c:Nat}:Nj [c]=decide (48<=c/\c<=57):=by unfold Nj;rw[bI];exact⟨λh=>(show∀u∈xT,48<=u.headD 0/\u.headD 0<=57 from by decide) _ h,λh=>by have q:=(show∀d,d<10->[48+d]∈xT from by decide) (c-48) (by lia);rwa[show 48+(c-48)=c by lia] at q⟩
def q8{n:Nat}(h:DefX P w K mg base k Tc (ai eL) X)(Sm:mg "len"=none)(Th:mg "int"=none)(c1:EV.Callee X "_law_mark" fC)(c2:EV.Callee X "_law_tree_atom" (LC GA<|n+1)):∀ds d,LC GF (n+1) ds d->Sf X (ds.map Sl.val++List.replicate (Tc.length-ds.length) Sl.un) (aD eL) (.rt d):=by
 rintro ds d ⟨T,a,rfl,ok,hd,rfl⟩;have t:=h.at';haveI:=h.S5;have b1:=h.bt Th;have b2:=h.bt Sm;show Sf X [.val<|.lst<|az T,.val<|.int a,.un,.un,.un,.un] _ (.rt<|xt<|kL (g T n) T a);have hm:=wl T a _<|ar<|lP T a;refine au (aX t 2 af)<|au (fE t ⟨lP T a,Gv (λi=>[.val<|.lst<|az T,.val<|.int ((a+i:Nat):Int),.val<|.int i,.un,.un,.un]) (lP T a) (λi hi=>⟨Sg.eq (qX t (aG t c1 (ac (aa t 0)<|ac (aa t 1) ah) ⟨T,a+i,rfl,rfl⟩) Sd (ok.c _) Bx)<|ap<|wk T a i hi,au (aX t 2<|bK (aa t 2) af)<|aw<|SQ.eq (aX t 1<|bK (aa t 1) af) ?_⟩) (Sg.eq (qX t (aG t c1 (ac (aa t 0)<|ac (aa t 1) ah) ⟨T,a+lP T a,rfl,rfl⟩) Sd (ok.c _) Bx)<|ak<|Ar T a) (lP T a) 0<|by lia⟩) ?_;·show(Out.nx [_,.val<|.int<|((a+i:Nat):Int)+1,.val<|.int<|(i:Int)+1,_,_,_])=.nx [_,.val<|.int ((a+(i+1):Nat):Int),.val<|.int ((i+1:Nat):Int),_,_,_];rw[show((a+i:Nat):Int)+1=((a+(i+1):Nat):Int)by lia,show(i:Int)+1=((i+1:Nat):Int)by lia]
 unfold kL tV;generalize lP T a=m at hm;generalize hb:a+m=b at hm;refine au (la t (d:=xt<|gQ (g T n) T b) (aG t c2 (ac (aa t 0)<|ac (aa t 1) ah) ⟨T,b,rfl,ok,by rw[hm];exact hd,rfl⟩)<|gG t<|bN (bv t 3)<|bN (bv t 4) fx) ?_;show Sf X [.val<|.lst<|az T,.val<|.int b,.val<|.int m,.val<|nW (gQ (g T n) T b).1,.val<|.int (gQ (g T n) T b).2,.un] _ _;cases gQ (g T n) T b with
 |mk o e=>
  cases o with
  |none=>exact iT (Sg.eq (fG (u:=true) (v:=false) (Sg.eq (iS<|aa (d:=.Sy) t 3 rfl) rfl) λz=>nomatch z) rfl) (λ_=>aw<|bg<|aF<|ac gh<|ac (aa t 1) ah) λz=>nomatch z
  |some tr=>
   have hc:=ok.c<|e+1;have he1:(e:Int)+1=((e+1:Nat):Int):=by lia
   have he2:(e:Int)+2=((e+2:Nat):Int):=by lia
   dsimp only;refine iT (u:=decide<|20<m) (Sg.eq (fG (Sg.eq (iS<|aa t 3)<|oK tr) λ_=>fg (aa t 2) af)<|by rw[iz];simp only[bI];lia) (λq=>aw<|bg<|Se.eq (aF<|ac gh<|ac (aa t 1) ah) ?_) λq=>?_
   ·have q':=cE q;by_cases y:cz T e=[94]
    ·by_cases z:Nj (cz T<|e+1)=true;·rw[ax y,ax z];show _=xt (if 20<m then _ else _);rw[ax q'];rfl
     ·rw[ax y,av z];rfl
    ·rw[av y];show _=xt (if 20<m then _ else _);rw[ax q'];rfl
   have q':=cp q;have last:∀(t':Tr)(e':Nat)(x:Sl){T1:List Stmt},T1=(aD eL).drop 5->Sf X [.val<|.lst<|az T,.val<|.int b,.val<|.int m,.val<|nW<|some t',.val<|.int e',x] T1 (.rt<|xt (some<|ng m t',e')):=by
    rintro t' e' x _ rfl;by_cases o1:m%2=1;·refine au (dD (Sg.eq (fH (bO (aa t 2) af<|by decide) af)<|ap<|by lia)<|aw<|aX t 3<|aF<|ac Sd<|ac (aF<|ac Sd<|ac Sd ah)<|ac (aa t 3) ah)<|aw<|bg<|Se.eq (aF<|ac (aa t 3)<|ac (aa t 4) ah) ?_;unfold ng;rw[ax o1,Ql];rfl
    ·refine au (cB (Sg.eq (fH (bO (aa t 2) af<|by decide) af)<|ak<|by lia) bQ)<|aw<|bg<|Se.eq (aF<|ac (aa t 3)<|ac (aa t 4) ah) ?_;unfold ng;rw[av o1];rfl
   by_cases y:cz T e=[94]
   ·skip
    by_cases z:Nj (cz T<|e+1)=true
    ·rw[ax y,ax z];obtain⟨f1,f2⟩:=AA _<|cE z;generalize dg (cz T<|e+1)=dd at f1 f2;have Yr:PySem.intText? (S [48+dd])=some ((dd:Nat):Int):=by
      have:∀d:Nat,d<10->PySem.intText? (S [48+d])=some ((d:Nat):Int):=by decide
      exact this dd<|by lia
     refine au (ρ':=[.val<|.lst<|az T,.val<|.int b,.val<|.int m,.val<|nW<|some<|.pow tr dd,.val<|.int ((e+2:Nat):Int),.val<|.str<|S<|cz T<|e+1]) (dD (Sg.eq (qX t (aG t c1 (ac (aa t 0)<|ac (aa t 4) ah) ⟨T,e,rfl,rfl⟩) Sd (ok.c e) Jb)<|ap y)<|au (aX t 5<|aG t c1 (ac (aa t 0)<|ac (Se.eq (bK (aa t 4) af)<|aV D.int he1) ah) ⟨T,e+1,rfl,rfl⟩)<|au (cB (Sg.eq (fG (Sg.eq (oS (dB t b2 (aa t 5)<|by rw[f1];exact TN<|by simp) af) (b':=false) ?_) λ_=>ES (r:=true) (aa t 5) Sd ?_) rfl) bQ)<|au (aX t 3<|aF<|ac Sd<|ac (aa t 3)<|ac (sD t b1 (aa t 5) (n:=(dd:Int)) ?_ ?_) ah)<|aw<|SQ.eq (aX t 4<|bK (aa t 4) af) ?_) ?_;·rw[f1];rfl
     ·rw[f1];exact(wJ (48+dd)<|by lia).trans<|ap<|by lia
     ·rw[f1];exact Yr
     ·rw[f1,cq];simp
     ·rw[<-he2];rfl
     ·show Sf X _ _ (.rt<|xt (if 20<m then(none,b)else(some<|ng m<|.pow tr dd,e+2)));rw[av q'];exact last (.pow tr dd) (e+2) _ rfl
    ·have z':Nj (cz T<|e+1)=false:=by simpa using z
     rw[ax y,av z];refine fm<|dD (Sg.eq (qX t (aG t c1 (ac (aa t 0)<|ac (aa t 4) ah) ⟨T,e,rfl,rfl⟩) Sd (ok.c e) Jb)<|ap y)<|au (aX t 5<|aG t c1 (ac (aa t 0)<|ac (Se.eq (bK (aa t 4) af)<|aV D.int he1) ah) ⟨T,e+1,rfl,rfl⟩)<|fm<|dD ?_<|aw<|bg<|aF<|ac gh<|ac (aa t 1) ah;by_cases l1:(cz T<|e+1).length=1
     ·obtain⟨c,ec⟩:∃c,cz T (e+1)=[c]:=by
       match cz T (e+1),l1 with|[c],_=>exact⟨c,rfl⟩
      refine Sg.eq (fG (Sg.eq (oS (dB t b2 (aa t 5)<|TN<|ok.l _) af) (b':=false)<|by rw[cq,l1];rfl) λ_=>ES (r:=false) (aa t 5) Sd ?_) rfl;rw[ec]at z' hc ⊢;rw[Km]at z';exact(wJ c<|hc c<|by simp).trans z'
     ·exact Sg.eq (fG (u:=true) (v:=true) (Sg.eq (oS (dB t b2 (aa t 5)<|TN<|ok.l _) af)<|by rw[cq,ak<|by lia];rfl) λz=>nomatch z) rfl
   ·rw[av y];show Sf X _ _ (.rt<|xt (if 20<m then(none,b)else(some<|ng m tr,e)));rw[av q'];exact au (cB (Sg.eq (qX t (aG t c1 (ac (aa t 0)<|ac (aa t 4) ah) ⟨T,e,rfl,rfl⟩) Sd (ok.c e) Jb)<|ak y) bQ)<|last tr e _ rfl
def ON:([D.str "+",.str "-"]:aQ)=az [[43],[45]]:=by unfold az;rw[Qj,Bx];rfl
def Qq{e:Nat}(h:cz T e=[42]):e<T.length/\dp T (e+1)=dp T e:=⟨iP<|by rw[h];simp,gb (iP<|by rw[h];simp) (by rw[h];simp)<|by rw[h];simp⟩
def Qp{e:Nat}(h:cz T e=[43]\/cz T e=[45]):e<T.length/\dp T (e+1)=dp T e:=by have l:e<T.length:=iP (by rcases h with h |h<;>rw[h]<;>simp);exact⟨l,gb l (by rcases h with h |h<;>rw[h]<;>simp)<|by rcases h with h |h<;>rw[h]<;>simp⟩
def JK{n:Nat}[Vh X](t:At X SV (ai cb))(c1:EV.Callee X "_law_mark" fC)(c2:EV.Callee X "_law_tree_factor" (LC GF<|n+1))(ok:Xk T)(a:Nat):∀(f:Nat)(tr:Tr)(e:Nat)(x:Sl),T.length<=f+e->dp T e+((n+1:Nat):Int)=21->(∃WM e' m y,ni (g T n) T a f tr e=(some WM,e')/\T3 X (uZ (aD cb) 1).1 (uZ (aD cb) 1).2 m [.val<|.lst<|az T,.val<|.int a,.val<|nW<|some tr,.val<|.int e,x] (.nx [.val<|.lst<|az T,.val<|.int a,.val<|nW<|some WM,.val<|.int e',y]))\/(ni (g T n) T a f tr e=(none,a)/\∃m,T3 X (uZ (aD cb) 1).1 (uZ (aD cb) 1).2 m [.val<|.lst<|az T,.val<|.int a,.val<|nW<|some tr,.val<|.int e,x]<|.rt<|xt (none,a)):=by
 have test:∀(tr:Tr)(e:Nat)(x:Sl),Sg X [.val<|.lst<|az T,.val<|.int a,.val<|nW<|some tr,.val<|.int e,x] (uZ (aD cb) 1).1 (decide<|cz T e=[42]):=λtr e x=>Sg.eq (eQ (Sg.eq (vi<|aa t 2) (b':=true)<|by rw[oK];rfl) λ_=>qX t (aG t c1 (ac (aa t 0)<|ac (aa t 3) ah) ⟨T,e,rfl,rfl⟩) Sd (ok.c e) Qi)<|CT _;intro f;induction f with
 |zero=>intro tr e x hf hd;exact .inl ⟨tr,e,0,x,rfl,.stop<|Sg.eq (test tr e x)<|ak<|by rw[z7<|by lia];simp⟩
 |succ f ih=>
  intro tr e x hf hd;by_cases y:cz T e=[42]
  ·have h2:=Qq y;have e1:(e:Int)+1=((e+1:Nat):Int):=by lia
   have hc:GF T (n+1) (e+1)=kL (g T n) T (e+1):=rfl;have hdd:dp T (e+1)+((n+1:Nat):Int)=21:=by rw[h2.2];exact hd
   cases q:kL (g T n) T (e+1)with
   |mk o e'=>
    have WH:LC GF (n+1) [.lst<|az T,.int ((e+1:Nat):Int)] (.tup [nW o,.int e']):=⟨T,e+1,rfl,ok,hdd,by rw[hc,q];rfl⟩;cases o with
    |none=>refine .inr ⟨?_,0,.ret (Sg.eq (test tr e x)<|ap y)<|au (la t (aG t c2 (ac (aa t 0)<|ac (Se.eq (bK (aa t 3) af)<|aV D.int e1) ah) WH)<|gG t<|bN (bv t 4)<|bN (bv t 3) fx)<|fm<|dD (Sg.eq (iS<|aa (d:=.Sy) t 4 rfl) rfl)<|aw<|bg<|aF<|ac gh<|ac (aa t 1) ah⟩;unfold ni;rw[ax y,q]
    |some m=>
     have A:=kc (fN T n) q;have l1:=A.lt;have step:Sf X [.val<|.lst<|az T,.val<|.int a,.val<|nW<|some tr,.val<|.int e,x] (uZ (aD cb) 1).2 (.nx [.val<|.lst<|az T,.val<|.int a,.val<|nW<|some<|.mul tr m,.val<|.int e',.val<|nW<|some m]):=au (la t (aG t c2 (ac (aa t 0)<|ac (Se.eq (bK (aa t 3) af)<|aV D.int e1) ah) WH)<|gG t<|bN (bv t 4)<|bN (bv t 3) fx)<|au (cB (Sg.eq (iS<|aa (d:=nW<|some m) t 4 rfl)<|oK m) bQ)<|aw<|aX t 2<|aF<|ac Sd<|ac (aa t 2)<|ac (aa t 4) ah;have eg:ni (g T n) T a (f+1) tr e=ni (g T n) T a f (.mul tr m) e':=by show(if cz T e=[42]then _ else _)=_;rw[ax y,q]
     rw[eg];rcases ih (.mul tr m) e' (.val<|nW<|some m) (by lia) (by rw[A.VL,h2.2];exact hd)with⟨WM,e2,mm,y',h3,h4⟩ |⟨h3,mm,h4⟩;·exact .inl ⟨WM,e2,mm+1,y',h3,.step (Sg.eq (test tr e x)<|ap y) step h4⟩
     ·exact .inr ⟨h3,mm+1,.step (Sg.eq (test tr e x)<|ap y) step h4⟩
  ·refine .inl ⟨tr,e,0,x,?_,.stop<|Sg.eq (test tr e x)<|ak y⟩;unfold ni;rw[av y]
def ua{n:Nat}(h:DefX P w K mg base k SV (ai cb) X)(c1:EV.Callee X "_law_mark" fC)(c2:EV.Callee X "_law_tree_factor" (LC GF<|n+1)):∀ds d,LC GP (n+1) ds d->Sf X (ds.map Sl.val++List.replicate (SV.length-ds.length) Sl.un) (aD cb) (.rt d):=by
 rintro ds d ⟨T,a,rfl,ok,hd,rfl⟩;have t:=h.at';haveI:=h.S5;show Sf X [.val<|.lst<|az T,.val<|.int a,.un,.un,.un] _ (.rt<|xt<|wH (g T n) T a);unfold wH;cases q:kL (g T n) T a with
 |mk o e=>
  have WH:LC GF (n+1) [.lst<|az T,.int a] (.tup [nW o,.int e]):=⟨T,a,rfl,ok,hd,by show _=xt (kL (g T n) T a);rw[q];rfl⟩;refine au (la t (aG t c2 (ac (aa t 0)<|ac (aa t 1) ah) WH)<|gG t<|bN (bv t 2)<|bN (bv t 3) fx) ?_;cases o with
  |none=>refine au (fE t ⟨0,.stop<|Sg.eq (eQ (u:=false) (v:=false) (Sg.eq (vi<|aa (d:=.Sy) t 2 rfl) rfl) λz=>nomatch z) rfl⟩)<|aw<|bg<|aF<|ac (aa t 2)<|ac (aa t 3) ah
  |some tr=>
   have A:=kc (fN T n) q;show Sf X [.val<|.lst<|az T,.val<|.int a,.val<|nW<|some tr,.val<|.int e,.un] _ (.rt<|xt<|ni (g T n) T a T.length tr e);rcases JK t c1 c2 ok a T.length tr e .un (by lia) (by rw[A.VL];exact hd)with⟨WM,e2,mm,y',h3,h4⟩ |⟨h3,mm,h4⟩;·rw[h3];exact au (fE t ⟨mm,h4⟩)<|aw<|bg<|aF<|ac (aa t 2)<|ac (aa t 3) ah
   ·rw[h3];exact fm<|fE t ⟨mm,h4⟩
def Jo{n:Nat}[Vh X](t:At X S9 (ai b0))(bi:mf X (ai b0) "int" (.type "int"))(c1:EV.Callee X "_law_mark" fC)(c2:EV.Callee X "_law_tree_prod" (LC GP<|n+1))(ok:Xk T)(a:Nat):∀(f:Nat)(tr:Tr)(e:Nat)(x z:Sl),T.length<=f+e->dp T e+((n+1:Nat):Int)=21->(∃WM e' m y v,nh (g T n) T a f tr e=(some WM,e')/\T3 X (uZ (aD b0) 1).1 (uZ (aD b0) 1).2 m [.val<|.lst<|az T,.val<|.int a,.val<|nW<|some tr,.val<|.int e,x,z] (.nx [.val<|.lst<|az T,.val<|.int a,.val<|nW<|some WM,.val<|.int e',y,v]))\/(nh (g T n) T a f tr e=(none,a)/\∃m,T3 X (uZ (aD b0) 1).1 (uZ (aD b0) 1).2 m [.val<|.lst<|az T,.val<|.int a,.val<|nW<|some tr,.val<|.int e,x,z]<|.rt<|xt (none,a)):=by
 have cw:PyData.canLayAll0 (Sq [D.str "+",.str "-"])=true:=by decide
 have test:∀(tr:Tr)(e:Nat)(x z:Sl),Sg X [.val<|.lst<|az T,.val<|.int a,.val<|nW<|some tr,.val<|.int e,x,z] (uZ (aD b0) 1).1 (decide<|cz T e=[43]\/cz T e=[45]):=λtr e x z=>Sg.eq (eQ (Sg.eq (vi<|aa t 2) (b':=true)<|by rw[oK];rfl) λ_=>jQ (r:=decide<|cz T e∈[[43],[45]]) t (aG t c1 (ac (aa t 0)<|ac (aa t 3) ah) ⟨T,e,rfl,rfl⟩) (aF<|ac Sd<|ac Sd ah) (dN<|dA<|ok.c e) (dk _) cw<|by rw[ON];exact jX _ _) (by rw[CT];simp);intro f;induction f with
 |zero=>intro tr e x z hf hd;exact .inl ⟨tr,e,0,x,z,rfl,.stop<|Sg.eq (test tr e x z)<|ak<|by rw[z7<|by lia];simp⟩
 |succ f ih=>
  intro tr e x z hf hd;by_cases y:cz T e=[43]\/cz T e=[45]
  ·have h2:=Qp y;have e1:(e:Int)+1=((e+1:Nat):Int):=by lia
   have hdd:dp T (e+1)+((n+1:Nat):Int)=21:=by rw[h2.2];exact hd
   have wd:kS ([.str "more",.str "less"]:aQ) (if decide (cz T e=[45])=true then 1 else 0)=some (.str<|ul (if cz T e=[45]then 2 else 1)):=by
    by_cases q:cz T e=[45];·rw[ap q,ax rfl,ax q];rfl
    ·rw[ak q,av ay,av q];rfl
   cases q:wH (g T n) T (e+1)with
   |mk o e'=>
    have WH:LC GP (n+1) [.lst<|az T,.int ((e+1:Nat):Int)] (.tup [nW o,.int e']):=⟨T,e+1,rfl,ok,hdd,by show _=xt (wH (g T n) T<|e+1);rw[q];rfl⟩;cases o with
    |none=>refine .inr ⟨?_,0,.ret (Sg.eq (test tr e x z)<|ap y)<|au (aX t 4<|aY (Ss.toQ<|bE<|ac Sd<|ac Sd ah) (gX t bi<|nq t (aY (Se.ql<|aa t 0) (aa t 3)<|rL h2.1) Sd (ok.c e) Bx) wd)<|au (la t (aG t c2 (ac (aa t 0)<|ac (Se.eq (bK (aa t 3) af)<|aV D.int e1) ah) WH)<|gG t<|bN (bv t 5)<|bN (bv t 3) fx)<|fm<|dD (Sg.eq (iS<|aa (d:=.Sy) t 5 rfl) rfl)<|aw<|bg<|aF<|ac gh<|ac (aa t 1) ah⟩;unfold nh;rw[ax y,q]
    |some m=>
     have A:=nB (fN T n) q;have l1:=A.lt;have et:nW (some (if cz T e=[45]then Tr.sub tr m else Tr.add tr m))=.tup [.str<|ul (if cz T e=[45]then 2 else 1),nW<|some tr,nW<|some m]:=by split<;>rfl
     have step:Sf X [.val<|.lst<|az T,.val<|.int a,.val<|nW<|some tr,.val<|.int e,x,z] (uZ (aD b0) 1).2 (.nx [.val<|.lst<|az T,.val<|.int a,.val<|nW<|some (if cz T e=[45]then Tr.sub tr m else Tr.add tr m),.val<|.int e',.val<|.str<|ul (if cz T e=[45]then 2 else 1),.val<|nW<|some m]):=by rw[et];exact au (aX t 4<|aY (Ss.toQ<|bE<|ac Sd<|ac Sd ah) (gX t bi<|nq t (aY (Se.ql<|aa t 0) (aa t 3)<|rL h2.1) Sd (ok.c e) Bx) wd)<|au (la t (aG t c2 (ac (aa t 0)<|ac (Se.eq (bK (aa t 3) af)<|aV D.int e1) ah) WH)<|gG t<|bN (bv t 5)<|bN (bv t 3) fx)<|au (cB (Sg.eq (iS<|aa (d:=nW<|some m) t 5 rfl)<|oK m) bQ)<|aw<|aX t 2<|aF<|ac (aa t 4)<|ac (aa t 2)<|ac (aa t 5) ah
     have eg:nh (g T n) T a (f+1) tr e=nh (g T n) T a f (if cz T e=[45]then Tr.sub tr m else Tr.add tr m) e':=by show(if cz T e=[43]\/cz T e=[45]then _ else _)=_;rw[ax y,q]
     rw[eg];rcases ih (if cz T e=[45]then Tr.sub tr m else Tr.add tr m) e' (.val<|.str<|ul (if cz T e=[45]then 2 else 1)) (.val<|nW<|some m) (by lia) (by rw[A.VL,h2.2];exact hd)with⟨WM,e2,mm,y',v',h3,h4⟩ |⟨h3,mm,h4⟩;·exact .inl ⟨WM,e2,mm+1,y',v',h3,.step (Sg.eq (test tr e x z)<|ap y) step h4⟩
     ·exact .inr ⟨h3,mm+1,.step (Sg.eq (test tr e x z)<|ap y) step h4⟩
  ·refine .inl ⟨tr,e,0,x,z,?_,.stop<|Sg.eq (test tr e x z)<|ak y⟩;unfold nh;rw[av y]
def uT{n:Nat}(h:DefX P w K mg base k S9 (ai b0) X)(Th:mg "int"=none)(c1:EV.Callee X "_law_mark" fC)(c2:EV.Callee X "_law_tree_prod" (LC GP<|n+1)):∀ds d,LC g (n+1) ds d->Sf X (ds.map Sl.val++List.replicate (S9.length-ds.length) Sl.un) (aD b0) (.rt d):=by
 rintro ds d ⟨T,a,rfl,ok,hd,rfl⟩;have t:=h.at';haveI:=h.S5;have bi:=h.bt Th;show Sf X [.val<|.lst<|az T,.val<|.int a,.un,.un,.un,.un] _ (.rt<|xt<|HS (g T n) T a);unfold HS;cases q:wH (g T n) T a with
 |mk o e=>
  have WH:LC GP (n+1) [.lst<|az T,.int a] (.tup [nW o,.int e]):=⟨T,a,rfl,ok,hd,by show _=xt (wH (g T n) T a);rw[q];rfl⟩;refine au (la t (aG t c2 (ac (aa t 0)<|ac (aa t 1) ah) WH)<|gG t<|bN (bv t 2)<|bN (bv t 3) fx) ?_;cases o with
  |none=>refine au (fE t ⟨0,.stop<|Sg.eq (eQ (u:=false) (v:=false) (Sg.eq (vi<|aa (d:=.Sy) t 2 rfl) rfl) λz=>nomatch z) rfl⟩)<|aw<|bg<|aF<|ac (aa t 2)<|ac (aa t 3) ah
  |some tr=>
   have A:=nB (fN T n) q;show Sf X [.val<|.lst<|az T,.val<|.int a,.val<|nW<|some tr,.val<|.int e,.un,.un] _ (.rt<|xt<|nh (g T n) T a T.length tr e);rcases Jo t bi c1 c2 ok a T.length tr e .un .un (by lia) (by rw[A.VL];exact hd)with⟨WM,e2,mm,y',v',h3,h4⟩ |⟨h3,mm,h4⟩;·rw[h3];exact au (fE t ⟨mm,h4⟩)<|aw<|bg<|aF<|ac (aa t 2)<|ac (aa t 3) ah
   ·rw[h3];exact fm<|fE t ⟨mm,h4⟩
def Hu{α:Type}[DecidableEq α]:∀{l m:List α},l.Nodup->(∀x∈l,x∈m)->l.length<=m.length|[],m,_,_=>bR _|x::l,m,nd,h=>by have hx:=h x (by simp);have nd':=dG.mp nd;have:=Hu (m:=m.erase x) nd'.2 λy hy=>(List.mem_erase_of_ne λ(e:y=x)=>nd'.1<|e▸hy).mpr<|h y (by simp[hy]);rw[List.length_erase_of_mem hx]at this;have:0<m.length:=List.length_pos_of_mem hx;simp;lia
def J6:((List.range 100).map λn=>qD<|nk (n / 10)<|n%10)=[-8458139203682520985,-1950498447580522560,7204814214171964562,-4734289103435588629,1773351652666409796,-3119722376306286570,-1010439003188656273,-5903513032161352639,604127723940645786,-4288946305032050580,-5164621852614943976,8389048192121911274,-3550055125485641917,-1440771752368011620,-6333845781340707986,173794974761290439,-4719279054211405927,-2609995681093775630,3897645075008222795,-995428953964473571,4685526799349444076,6794810172467074373,1901736143494378007,8409376899596376432,3516302870623680066,-8422800446983873125,-6313517073866242828,7240152970870612422,-4698950346736940769,8854719697999914481,2248468952609198383,8756109708711196808,3863035679738500442,5972319052856130739,1079245023883434373,7586885779985432798,-4352217537622120393,4803095124130366729,-7136008193477186462,6417661851259668788,-6348126469135965181,159514286966033244,-9131917124991031250,-2624276368889032825,3883364387212965600,-1009709641759730766,1099573731357899531,-3793500297614796835,2714140458487201590,-2178933570485494776,-3054609118068388172,3453031638033610253,-5838399773923454241,669240982178544184,-4223833046794152182,2283807709307846243,-7007623702649218251,-499982946547219826,6007657809554778599,1114583780582082233,-5491666964808633865,8062003079928221385,-3877100237679331806,2630540518422666619,-6660890893534397875,-153250137432399450,-5046324166405095816,1461316589696902609,3570599962814532906,-1322474066158163460,4358481687155754187,-7580621630451799004,5973048414285056246,8082331787402686543,3189257758429990177,-8749845559177563014,-2242204803075564589,6913107858676922533,-5025995458930630658,8527674585806224592,1921423840415508494,8429064596517506919,3535990567544810553,-8403112750062742638,752199911689744484,7259840667791742909,-4679262649815810282,8874407394921044968,-7463053305670876351,6090616739065978899,-6675171581329655070,-167530825227656645,-5060604854200353011,-2951321481082722714,3556319275019275711,-1336754753953420655,5170886002148577770,-4120545409808486724,2387095346293511701,-2505978682679184665]:=by decide
def MY:(([-8458139203682520985,-1950498447580522560,7204814214171964562,-4734289103435588629,1773351652666409796,-3119722376306286570,-1010439003188656273,-5903513032161352639,604127723940645786,-4288946305032050580,-5164621852614943976,8389048192121911274,-3550055125485641917,-1440771752368011620,-6333845781340707986,173794974761290439,-4719279054211405927,-2609995681093775630,3897645075008222795,-995428953964473571,4685526799349444076,6794810172467074373,1901736143494378007,8409376899596376432,3516302870623680066,-8422800446983873125,-6313517073866242828,7240152970870612422,-4698950346736940769,8854719697999914481,2248468952609198383,8756109708711196808,3863035679738500442,5972319052856130739,1079245023883434373,7586885779985432798,-4352217537622120393,4803095124130366729,-7136008193477186462,6417661851259668788,-6348126469135965181,159514286966033244,-9131917124991031250,-2624276368889032825,3883364387212965600,-1009709641759730766,1099573731357899531,-3793500297614796835,2714140458487201590,-2178933570485494776,-3054609118068388172,3453031638033610253,-5838399773923454241,669240982178544184,-4223833046794152182,2283807709307846243,-7007623702649218251,-499982946547219826,6007657809554778599,1114583780582082233,-5491666964808633865,8062003079928221385,-3877100237679331806,2630540518422666619,-6660890893534397875,-153250137432399450,-5046324166405095816,1461316589696902609,3570599962814532906,-1322474066158163460,4358481687155754187,-7580621630451799004,5973048414285056246,8082331787402686543,3189257758429990177,-8749845559177563014,-2242204803075564589,6913107858676922533,-5025995458930630658,8527674585806224592,1921423840415508494,8429064596517506919,3535990567544810553,-8403112750062742638,752199911689744484,7259840667791742909,-4679262649815810282,8874407394921044968,-7463053305670876351,6090616739065978899,-6675171581329655070,-167530825227656645,-5060604854200353011,-2951321481082722714,3556319275019275711,-1336754753953420655,5170886002148577770,-4120545409808486724,2387095346293511701,-2505978682679184665]:bh)).Nodup:=by decide
def MX{i k a c:Nat}(hi:i<10)(hk:k<10)(ha:a<10)(hc:c<10)(e:qD (nk i k)=qD (nk a c)):nk i k=nk a c:=by
 have nd:=MY;rw[<-J6]at nd;have key:∀n m:Nat,n<100->m<100->qD (nk (n / 10)<|n%10)=qD (nk (m / 10)<|m%10)->n=m:=λn m hn hm e=>by
  have l:((List.range 100).map λn=>qD<|nk (n / 10)<|n%10).length=100:=by simp
  have:=(List.getElem_inj (h₀:=by rw[l];exact hn) (h₁:=by rw[l];exact hm) nd).mp (by simpa using e);exact this
 have:=key (10*i+k) (10*a+c) (by lia) (by lia) (by rw[show(10*i+k) / 10=i by lia,show(10*i+k)%10=k by lia,show(10*a+c) / 10=a by lia,show(10*a+c)%10=c by lia];exact e);rw[show i=a by lia,show k=c by lia]
def HH:∀{kv:fA},(kv.map (·.1)).Nodup->TM 10 kv->(kv.map λy=>qD y.1).Nodup|[],_,_=>List.nodup_nil|p::r,nd,hk=>by rw[aP,dG]at nd ⊢;refine⟨λhm=>?_,HH nd.2 λz hz=>hk z<|by simp[hz]⟩;obtain⟨y,hy,e⟩:=List.mem_map.mp hm;obtain⟨i,j,e1,hi,hj⟩:=hk p (by simp);obtain⟨a,c,e2,ha,hc⟩:=hk y (by simp[hy]);rw[e1,e2]at e;have:=MX ha hc hi hj e;exact nd.1<|List.mem_map.mpr ⟨y,hy,by rw[e1,e2,this]⟩
def wB{kv:fA}(h:TX kv)(hk:TM n kv):kv.length<=n*n:=by
 have:=Hu (m:=(List.range n).flatMap λi=>(List.range n).map λk=>nk i k) h.nd λx hx=>by obtain⟨p,hp,rfl⟩:=List.mem_map.mp hx;obtain⟨i,j,e,hi,hj⟩:=hk p hp;exact List.mem_flatMap.mpr ⟨i,List.mem_range.mpr hi,List.mem_map.mpr ⟨j,List.mem_range.mpr hj,e.symm⟩⟩
 rw[aj]at this;refine ao this ?_;rw[List.length_flatMap];have:∀l:bZ,(l.map λi=>((List.range n).map λk=>nk i k).length).sum=l.length*n:=by intro l;induction l with|nil=>simp|cons a l ih=>rw[aP,List.sum_cons,ih,bp,mh];simp;lia
 rw[this];simp
def yq(A B:fA)(p:bh×Int)(s:Int):dy A (B++[p]) s=gE (dy A B s) p.1 ((du (dy A B s) p.1).getD 0+s*p.2):=by unfold dy;rw[sZ];rfl
def Im:∀(n:Nat)(u:bZ),u.length=n->(∀c∈u,48<=c/\c<=57)->PySem.NumText.digitsVal u<10 ^ n
 |0,u,e,_=>by have:u=[]:=uX.mp e;subst this;decide
 |n+1,u,e,h=>by
  have UQ:u≠[]:=λz=>by rw[z]at e;cases e
  have e2:=List.dropLast_concat_getLast UQ;have hl:u.dropLast.length=n:=by rw[bF];lia
  have ih:=Im n u.dropLast hl λc hc=>h c<|List.dropLast_subset _ hc;have hc:=h (u.getLast UQ)<|List.getLast_mem UQ;rw[<-e2,PySem.NumText.digitsVal_snoc];have:10 ^ (n+1)=10 ^ n*10:=mi ..;lia
def MO(h:xk u):PySem.NumText.digitsVal u<10 ^ 12:=aW (Im _ u rfl h.2.1)<|bM (by decide) h.2.2.1
def G9(s:Nat):∀i,xr s i<=10 ^ 40|0=>by show 1<=10 ^ 40;decide|i+1=>Nat.min_le_left _ _
def A9:∀t,IJ t->(cK t).1<=9 ^ dT t/\(cK t).2<=10 ^ 40*2 ^ dT t
 |.leaf u,l=>by
  show(cK<|.leaf u).1<=9 ^ 1/\(cK<|.leaf u).2<=10 ^ 40*2 ^ 1;unfold cK;split;·decide
  ·rename_i q;refine⟨by show 0<=_;lia,?_⟩;have:xk u:=by
    rcases l with z |z |z;·exact z
    ·exact absurd (.inl z) q
    ·exact absurd (.inr z) q
   have:=MO this;show max 1 _<=_;lia
 |.pow t d,l=>by
  obtain⟨h1,h2⟩:=A9 t l.1;have hd:d<=9:=l.2;have h3:=G9 (cK t).2 d;refine⟨?_,?_⟩;·show(cK t).1*max 1 d<=9 ^ (dT t+1);rw[mi];exact eV h1<|by lia
  ·show max _ _<=10 ^ 40*2 ^ (dT t+1);have e:(10:Nat) ^ 40*2 ^ (dT t+1)=10 ^ 40*2 ^ dT t*2:=by rw[mi (n:=2),Nat.mul_assoc]
   have h4:10 ^ 40*1<=10 ^ 40*2 ^ dT t:=cU _<|D2;lia
 |.bin k a b,l=>by
  obtain⟨h1,h2⟩:=A9 a l.2.1;obtain⟨h3,h4⟩:=A9 b l.2.2;show(cK<|.bin k a b).1<=9 ^ (max (dT a) (dT b)+1)/\(cK<|.bin k a b).2<=10 ^ 40*2 ^ (max (dT a) (dT b)+1);have p1:9 ^ dT a<=9 ^ max (dT a) (dT b):=bM (by decide) (by lia);have p2:9 ^ dT b<=9 ^ max (dT a) (dT b):=bM (by decide) (by lia);have p3:10 ^ 40*2 ^ dT a<=10 ^ 40*2 ^ max (dT a) (dT b):=cU _<|bM (by decide) (by lia);have p4:10 ^ 40*2 ^ dT b<=10 ^ 40*2 ^ max (dT a) (dT b):=cU _<|bM (by decide) (by lia);have e1:(9:Nat) ^ (max (dT a) (dT b)+1)=9 ^ max (dT a) (dT b)*9:=mi ..;have e2:(10:Nat) ^ 40*2 ^ (max (dT a) (dT b)+1)=10 ^ 40*2 ^ max (dT a) (dT b)*2:=by rw[mi (n:=2),Nat.mul_assoc]
  have h5:10 ^ 40*1<=10 ^ 40*2 ^ max (dT a) (dT b):=cU _<|D2;unfold cK;split;·exact⟨by show _+_<=_;lia,by show min _ _<=_;lia⟩
  ·exact⟨by show max _ _<=_;lia,by show _+_<=_;lia⟩
def DP{t:Tl}(l:IJ t)(h:dT t<=200):(cK t).1<2 ^ 1000/\(cK t).2<2 ^ 1000:=by
 obtain⟨h1,h2⟩:=A9 t l;have q1:9 ^ dT t<=9 ^ 200:=bM (by decide) h;have q2:2 ^ dT t<=2 ^ 200:=bM (by decide) h;have q3:(9:Nat) ^ 200<2 ^ 1000:=by decide
 have q4:(10:Nat) ^ 40*2 ^ 200<2 ^ 1000:=by decide
 exact⟨bH (ao h1 q1) q3,bH (ao h2<|cU _ q2) q4⟩
def ND(t:Tl):D:=.tup [.int (cK t).1,.int (cK t).2]
def BC(n:Nat)(ds:aQ)(d:D):Prop:=∃t:Tl,ds=[sY t]/\IJ t/\dT t<=n/\dT t<=200/\d=ND t
def BC.len:∀ds d,BC n ds d->ds.length=1:=by rintro _ _ ⟨_,rfl,_⟩;rfl
def MC(n:Nat)(ds:aQ)(d:D):Prop:=∃t:Tl,ds=[sY t]/\IJ t/\dT t<=n/\CQ t/\d=.So (kr t)
def MC.len:∀ds d,MC n ds d->ds.length=1:=by rintro _ _ ⟨_,rfl,_⟩;rfl
def Wh:decide (("power":Str)="leaf")=false/\(∀k,decide (ul k="leaf")=false)/\∀k,decide (ul k="power")=false:=by
 refine⟨by decide,λk=>?_,λk=>?_⟩;·unfold ul;split;decide;split<;>decide
 ·unfold ul;split;decide;split<;>decide
def K1(k:Nat):decide (ul k="product")=decide (k=0):=by
 unfold ul;split;·rename_i h;rw[h];decide
 ·rename_i h;rw[ak h];split<;>decide
def N9{k:Nat}(h:k<=2):decide (ul k="less")=decide (k=2):=by
 have:k=0\/k=1\/k=2:=by lia
 rcases this with rfl |rfl |rfl<;>decide
def vx(k:Nat):PyData.strOk (ul k)=true:=by unfold ul;split;decide;split<;>decide
def Aq(h:TR u)(q:¬u∈([[120],[121]]:TK)):xk u:=by
 rcases h with z |z |z;·exact z
 ·exact absurd (by rw[z];simp) q
 ·exact absurd (by rw[z];simp) q
def ye(h:DefX P w K mg base k T4 (ai jz) X)(UT:mg "max"=none)(WT:mg "min"=none)(Th:mg "int"=none)(Sw:mg "range"=none)(c1:EV.Callee X "_law_bounds" (BC n)):∀ds d,BC (n+1) ds d->Sf X (ds.map Sl.val++List.replicate (T4.length-ds.length) Sl.un) (aD jz) (.rt d):=by
 rintro ds d ⟨tr,rfl,lv,hn,h2,rfl⟩;have t:=h.at';haveI:=h.S5;have b1:=h.bt UT;have b2:=h.bt WT;have b3:=h.bt Th;have b4:=h.bt Sw;have cw:PyData.canLayAll0 (Sq [D.str "x",.str "y"])=true:=by decide
 have p40:((10:Int) ^ (40:Int).toNat)=((10 ^ 40:Nat):Int):=by decide
 cases tr with
 |leaf u=>
  have hr:TR u:=lv;show Sf X [.val<|.tup [.str "leaf",.str<|S u],.un,.un,.un,.un] _ _;refine fm<|dD (Sg.eq (cf t (aY (Se.qt<|aa t 0) af rfl) Sd<|by decide)<|by decide) ?_;refine iT (u:=decide<|u∈([[120],[121]]:TK)) (jQ (r:=decide<|u∈([[120],[121]]:TK)) t (aY (d:=.str<|S u) (Se.qt<|aa t 0) af rfl) (aF<|ac Sd<|ac Sd ah) (dN<|dA hr.lt) (dk _) cw<|by rw[D4];exact jX _ _) (λv=>aw<|bg<|Se.eq (aF<|ac af<|ac af ah) ?_) λv=>aw<|bg<|Se.eq (aF<|ac af<|ac (lz t b1 af<|sD t b3 (aY (d:=.str<|S u) (Se.qt<|aa t 0) af rfl) (wc<|Aq hr<|cp v)<|by rw[cq];have:=(Aq hr<|cp v).2.2.1;lia) ah) ?_
  ·have v':u=[120]\/u=[121]:=by simpa using cE v
   unfold ND cK;rw[ax v'];rfl
  ·have v':¬(u=[120]\/u=[121]):=by simpa using cp v
   unfold ND cK;rw[av v'];show D.tup [.int 0,.int<|max 1<|uE u]=.tup [.int 0,.int ((max 1 _:Nat):Int)];unfold uE;congr 3;congr 1;lia
 |pow tr d=>
  have hd:d<=9:=lv.2;have hdt:dT tr+1<=n+1:=hn;have zC3:dT tr+1<=200:=h2;obtain⟨z1,z2⟩:=DP lv.1 (by lia);show Sf X [.val<|.tup [.str "power",sY tr,.int d],.un,.un,.un,.un] _ _;refine au (cB (Sg.eq (cf t (aY (Se.qt<|aa t 0) af rfl) Sd<|by decide)<|by decide) bQ)<|au (aX t 1<|aG t c1 (ac (aY (d:=sY tr) (Se.qt<|aa t 0) af rfl) ah) ⟨tr,rfl,lv.1,by lia,by lia,rfl⟩)<|fm<|dD (Sg.eq (cf t (aY (Se.qt<|aa t 0) af rfl) Sd<|by decide)<|by decide) ?_;refine au (aX t 2 af)<|au (ρ':=[.val<|.tup [.str "power",sY tr,.int d],.val<|ND tr,.val<|.int<|xr (cK tr).2 d,.un,.un]) (ik t (fz t b4 (aY (d:=.int d) (Se.qt<|aa t 0) af rfl) (by lia)<|by lia)<|SJ.SY (λj=>[.val<|.tup [.str "power",sY tr,.int d],.val<|ND tr,.val<|.int<|xr (cK tr).2 j,.un,.un]) (λj x e=>?_) rfl ?_)<|aw<|bg<|Se.eq (aF<|ac (gj (aY (d:=.int (cK tr).1) (Se.qt<|aa t 1) af rfl) (lz t b1 af<|aY (d:=.int d) (Se.qt<|aa t 0) af rfl)<|mD (k:=1000) (by decide) (by rw[ig];exact z1)<|bH (show(max 1 (d:Int)).natAbs<=9 by lia)<|by decide)<|ac (lz t b1 (aY (d:=.int (cK tr).2) (Se.qt<|aa t 1) af rfl)<|aa t 2) ah) ?_;·obtain⟨hj,rfl⟩:=il e;refine⟨_,bv t 3,Sf.weak (aw<|aX t 2<|Se.eq (AE t b2 (wK af af ⟨by decide,by decide,by decide⟩)<|gj (aa t 2) (aY (d:=.int (cK tr).2) (Se.qt<|aa t 1) af rfl)<|mD (k:=1000) (by decide) (by rw[ig];exact bH (G9 _ j)<|by decide)<|by rw[ig];exact z2) ?_)<|.keep<|.keep<|.keep<|.forget<|.keep .nil⟩;rw[p40];show D.int (min ((10 ^ 40:Nat):Int)<|((xr (cK tr).2 j:Nat):Int)*(((cK tr).2:Nat):Int))=.int ((min (10 ^ 40) (xr (cK tr).2 j*(cK tr).2):Nat):Int);rw[<-KW];generalize xr (cK tr).2 j*(cK tr).2=z;congr 1;lia
  ·simp[dY]
  ·show D.tup [.int<|((cK tr).1:Int)*max 1 (d:Int),.int<|max ((cK tr).2:Int) ((xr (cK tr).2 d:Nat):Int)]=.tup [.int (((cK tr).1*max 1 d:Nat):Int),.int ((max (cK tr).2 (xr (cK tr).2 d):Nat):Int)];rw[KW,show((max 1 d:Nat):Int)=max 1 (d:Int)by lia,show((max (cK tr).2 (xr (cK tr).2 d):Nat):Int)=max ((cK tr).2:Int) ((xr (cK tr).2 d:Nat):Int)by lia]
 |bin kk a b=>
  have hdt:max (dT a) (dT b)+1<=n+1:=hn;have zC3:max (dT a) (dT b)+1<=200:=h2;obtain⟨z1,z2⟩:=DP lv.2.1 (by lia);obtain⟨z3,z4⟩:=DP lv.2.2 (by lia);show Sf X [.val<|.tup [.str<|ul kk,sY a,sY b],.un,.un,.un,.un] _ _;refine au (cB (Sg.eq (cf t (aY (d:=.str<|ul kk) (Se.qt<|aa t 0) af rfl) Sd<|vx kk)<|Wh.2.1 kk) bQ)<|au (aX t 1<|aG t c1 (ac (aY (d:=sY a) (Se.qt<|aa t 0) af rfl) ah) ⟨a,rfl,lv.2.1,by lia,by lia,rfl⟩)<|au (cB (Sg.eq (cf t (aY (d:=.str<|ul kk) (Se.qt<|aa t 0) af rfl) Sd<|vx kk)<|Wh.2.2 kk) bQ)<|au (aX t 4<|aG t c1 (ac (aY (d:=sY b) (Se.qt<|aa t 0) af rfl) ah) ⟨b,rfl,lv.2.2,by lia,by lia,rfl⟩) ?_;refine iT (u:=decide<|kk=0) (Sg.eq (cf t (aY (d:=.str<|ul kk) (Se.qt<|aa t 0) af rfl) Sd<|vx kk)<|K1 kk) (λv=>aw<|bg<|Se.eq (aF<|ac (bK (aY (d:=.int (cK a).1) (Se.qt<|aa t 1) af rfl)<|aY (d:=.int (cK b).1) (Se.qt<|aa t 4) af rfl)<|ac (AE t b2 (wK af af ⟨by decide,by decide,by decide⟩)<|gj (aY (d:=.int (cK a).2) (Se.qt<|aa t 1) af rfl) (aY (d:=.int (cK b).2) (Se.qt<|aa t 4) af rfl)<|mD (k:=1000) (by decide) (by rw[ig];exact z2)<|by rw[ig];exact z4) ah) ?_) λv=>aw<|bg<|Se.eq (aF<|ac (lz t b1 (aY (d:=.int (cK a).1) (Se.qt<|aa t 1) af rfl)<|aY (d:=.int (cK b).1) (Se.qt<|aa t 4) af rfl)<|ac (bK (aY (d:=.int (cK a).2) (Se.qt<|aa t 1) af rfl)<|aY (d:=.int (cK b).2) (Se.qt<|aa t 4) af rfl) ah) ?_
  ·have e:cK (.bin kk a b)=((cK a).1+(cK b).1,min (10 ^ 40)<|(cK a).2*(cK b).2):=by show(if _ then _ else _)=_;rw[ax<|cE v]
   unfold ND;rw[e,p40];show D.tup [.int<|((cK a).1:Int)+((cK b).1:Int),.int<|min ((10 ^ 40:Nat):Int)<|((cK a).2:Int)*((cK b).2:Int)]=.tup [.int (((cK a).1+(cK b).1:Nat):Int),.int ((min (10 ^ 40) ((cK a).2*(cK b).2):Nat):Int)];rw[<-KW,<-KY,show((min (10 ^ 40) ((cK a).2*(cK b).2):Nat):Int)=min ((10 ^ 40:Nat):Int) (((cK a).2*(cK b).2:Nat):Int)by lia]
  ·have e:cK (.bin kk a b)=(max (cK a).1 (cK b).1,(cK a).2+(cK b).2):=by show(if _ then _ else _)=_;rw[av<|cp v]
   unfold ND;rw[e];show D.tup [.int<|max ((cK a).1:Int) ((cK b).1:Int),.int<|((cK a).2:Int)+((cK b).2:Int)]=.tup [.int ((max (cK a).1 (cK b).1:Nat):Int),.int (((cK a).2+(cK b).2:Nat):Int)];rw[<-KY,show((max (cK a).1 (cK b).1:Nat):Int)=max ((cK a).1:Int) ((cK b).1:Int)by lia]
def B5{t:Tl}(h:CQ t):TM 10 (kr t):=(jI t h).kd.up<|by have:=h.1;lia
def FD{kv:fA}(h:TX kv)(hk:TM 10 kv):kv.length<=1000:=ao (wB h hk)<|by decide
def MN(b:Bool):kS ([.int 1,.int (-1)]:aQ) (if b=true then 1 else 0)=some (.int (if b=true then-1 else 1)):=by cases b<;>rfl
def Bg(h:DefX P w K mg base k Uh (ai j7) X)(Th:mg "int"=none)(Sw:mg "range"=none)(V4:mg "dict"=none)(c1:EV.Callee X "_law_meant" (MC n))(c2:EV.TY X "_law_product" gn):∀ds d,MC (n+1) ds d->Sf X (ds.map Sl.val++List.replicate (Uh.length-ds.length) Sl.un) (aD j7) (.rt d):=by
 rintro ds d ⟨tr,rfl,lv,hn,hb,rfl⟩;have t:=h.at';haveI:=h.S5;have b3:=h.bt Th;have b4:=h.bt Sw;have b5:=h.bt V4;have cw:PyData.canLayAll0 (Sq [D.str "x",.str "y"])=true:=by decide
 cases tr with
 |leaf u=>
  have hr:TR u:=lv;show Sf X [.val<|.tup [.str "leaf",.str<|S u],.un,.un,.un,.un,.un] _ _;refine fm<|dD (Sg.eq (cf t (aY (Se.qt<|aa t 0) af rfl) Sd<|by decide)<|by decide) ?_;refine iT (u:=decide<|u∈([[120],[121]]:TK)) (jQ (r:=decide<|u∈([[120],[121]]:TK)) t (aY (d:=.str<|S u) (Se.qt<|aa t 0) af rfl) (aF<|ac Sd<|ac Sd ah) (dN<|dA hr.lt) (dk _) cw<|by rw[D4];exact jX _ _) (λv=>?_) λv=>?_
  ·have v':u=[120]\/u=[121]:=by simpa using cE v
   rcases v' with rfl |rfl;·exact aw<|bg<|SW.SF<|SW.eq (lE t<|UD.cons (k:=nk 1 0) (aF<|ac (Se.eq (gX t b3<|nq t (aY (d:=.str<|S [120]) (Se.qt<|aa t 0) af rfl) Sd hr.lt LQ) rfl)<|ac (Se.eq (gX t b3<|nq t (aY (d:=.str<|S [120]) (Se.qt<|aa t 0) af rfl) Sd hr.lt PN) rfl) ah) af .nil) rfl
   ·exact aw<|bg<|SW.SF<|SW.eq (lE t<|UD.cons (k:=nk 0 1) (aF<|ac (Se.eq (gX t b3<|nq t (aY (d:=.str<|S [121]) (Se.qt<|aa t 0) af rfl) Sd hr.lt LQ) rfl)<|ac (Se.eq (gX t b3<|nq t (aY (d:=.str<|S [121]) (Se.qt<|aa t 0) af rfl) Sd hr.lt PN) rfl) ah) af .nil) rfl
  ·have v0:=cp v;have v':¬u=[120]/\¬u=[121]:=by simpa using v0
   refine aw<|bg<|SW.SF<|SW.eq (lE t<|UD.cons (k:=nk 0 0) (aF<|ac af<|ac af ah) (sD t b3 (aY (d:=.str<|S u) (Se.qt<|aa t 0) af rfl) (wc<|Aq hr v0)<|by rw[cq];have:=(Aq hr v0).2.2.1;lia) .nil) ?_;show _=(if u=[120]then _ else _);rw[av v'.1,av v'.2];rfl
 |pow tr d=>
  have hd:d<=9:=lv.2;have hdt:dT tr+1<=n+1:=hn;have hb1:=t7 hb;have m:=jI tr hb1;have h1:(cK tr).1*max 1 d<=9:=hb.1;have h2:max (cK tr).2 (xr (cK tr).2 d)<=10 ^ 30:=hb.2;have hp:=Ai (LG tr) d (by lia);show Sf X [.val<|.tup [.str "power",sY tr,.int d],.un,.un,.un,.un,.un] _ (.rt<|.So<|hU (kr tr) d);refine au (cB (Sg.eq (cf t (aY (Se.qt<|aa t 0) af rfl) Sd<|by decide)<|by decide) bQ)<|au (aX t 1<|aG t c1 (ac (aY (d:=sY tr) (Se.qt<|aa t 0) af rfl) ah) ⟨tr,rfl,lv.1,by lia,hb1,rfl⟩)<|fm<|dD (Sg.eq (cf t (aY (Se.qt<|aa t 0) af rfl) Sd<|by decide)<|by decide) ?_;refine au (aX (d:=.So [(nk 0 0,1)]) t 2<|SW.SF<|SW.eq (lE t<|UD.cons (k:=nk 0 0) (aF<|ac af<|ac af ah) af .nil) rfl) ?_;refine au (ρ':=[.val<|.tup [.str "power",sY tr,.int d],.val<|.So<|kr tr,.val<|.So<|hU (kr tr) d,.un,.un,.un]) (ik t (fz t b4 (aY (d:=.int d) (Se.qt<|aa t 0) af rfl) (by lia)<|by lia)<|SJ.SY (λj=>[.val<|.tup [.str "power",sY tr,.int d],.val<|.So<|kr tr,.val<|.So<|hU (kr tr) j,.un,.un,.un]) (λj x e=>?_) rfl<|by simp[dY])<|aw<|bg<|aa t 2;obtain⟨hj,rfl⟩:=il e;have hj':j<d:=by lia
  have hk:TM 10 (hU (kr tr) j):=(tH m.kd j).up<|by have:j*(cK tr).1<=max 1 d*(cK tr).1:=ge _ (by lia);rw[Rw<|max 1 d]at this;lia
  have hv:VB (2 ^ 999) (hU (kr tr) j):=Di<|ao (pM m.ko m.nb j)<|ao (hp.2 j<|by lia)<|ao (show 10 ^ 30<=2 ^ 100 by decide)<|bM (by decide) (by decide);exact⟨_,bv t 3,Sf.weak (aw<|aX (d:=.So<|hU (kr tr)<|j+1) t 2<|SW.SF<|pT t c2 (ac (aa t 2)<|ac (aa t 1) ah) ⟨hU (kr tr) j,kr tr,rfl,oA m.ko j,m.ko,FD (oA m.ko j) hk,FD m.ko<|B5 hb1,hv,Hx hb1,rfl⟩)<|.keep<|.keep<|.keep<|.forget<|.keep<|.keep .nil⟩
 |bin kk a b=>
  have hdt:max (dT a) (dT b)+1<=n+1:=hn;obtain⟨ba,bb⟩:=dO hb;have ma:=jI a ba;have mb:=jI b bb;show Sf X [.val<|.tup [.str<|ul kk,sY a,sY b],.un,.un,.un,.un,.un] _ _;refine au (cB (Sg.eq (cf t (aY (d:=.str<|ul kk) (Se.qt<|aa t 0) af rfl) Sd<|vx kk)<|Wh.2.1 kk) bQ)<|au (aX t 1<|aG t c1 (ac (aY (d:=sY a) (Se.qt<|aa t 0) af rfl) ah) ⟨a,rfl,lv.2.1,by lia,ba,rfl⟩)<|au (cB (Sg.eq (cf t (aY (d:=.str<|ul kk) (Se.qt<|aa t 0) af rfl) Sd<|vx kk)<|Wh.2.2 kk) bQ)<|au (aX t 4<|aG t c1 (ac (aY (d:=sY b) (Se.qt<|aa t 0) af rfl) ah) ⟨b,rfl,lv.2.2,by lia,bb,rfl⟩) ?_;refine iT (u:=decide<|kk=0) (Sg.eq (cf t (aY (d:=.str<|ul kk) (Se.qt<|aa t 0) af rfl) Sd<|vx kk)<|K1 kk) (λv=>aw<|bg<|SW.SF<|SW.eq (pT t c2 (ac (aa t 1)<|ac (aa t 4) ah) ⟨kr a,kr b,rfl,ma.ko,mb.ko,FD ma.ko<|B5 ba,FD mb.ko<|B5 bb,Hx ba,Hx bb,rfl⟩) ?_) λv=>?_;·show _=(if kk=0 then _ else _);rw[ax<|cE v]
  have e0:kr (.bin kk a b)=dy (kr a) (kr b) (if kk=2 then-1 else 1):=by show(if _ then _ else _)=_;rw[av<|cp v]
  have hs:(if kk=2 then-1 else 1:Int)=1\/(if kk=2 then-1 else 1:Int)=-1:=by split;exact .inr rfl;exact .inl rfl
  have esg:(if decide (kk=2)=true then-1 else 1:Int)=if kk=2 then-1 else 1:=by simp only[bj]
  rw[e0];have iA:=B5 ba;have iB:=B5 bb;generalize hsg:(if kk=2 then-1 else 1:Int)=s at hs esg;have kA:=ma.ko;have kB:=mb.ko;generalize kr a=A at kA iA;generalize kr b=B at kB iB;refine au (C9 t 2<|EY t b5 (Se.dr<|aa t 1)<|HH kA.nd iA)<|au (ρ':=[.val<|.tup [.str<|ul kk,sY a,sY b],.val<|.So A,.TQ<|dy A B s,.un,.val<|.So B,.un]) (ik t (AL<|aa t 4)<|SJ.SY (λj=>[.val<|.tup [.str<|ul kk,sY a,sY b],.val<|.So A,.TQ<|dy A (B.take j) s,.un,.val<|.So B,.un]) (λj d e=>?_) rfl<|by rw[aj,bW])<|DA 2 rfl<|aw<|bg<|aa t 2;rw[List.getElem?_map]at e;cases e2:B[j]? with
  |none=>rw[e2]at e;cases e
  |some p=>
   rw[e2]at e;cases e;have hm:=List.mem_of_getElem? e2;have et:dy A (B.take<|j+1) s=gE (dy A (B.take j) s) p.1 ((du (dy A (B.take j) s) p.1).getD 0+s*p.2):=by rw[jr,e2];exact yq _ _ _ _
   have hv:du B p.1=some p.2:=mo kB.nd hm;have hlen:(dy A (B.take j) s).length<1000:=by have k1:=(jt s (λ_ _=>0) (B.take j) A kA λz hz=>kB.keys z<|cg hz).1;have:=wB k1 (mQ s (B.take j) A iA λz hz=>iB z<|cg hz);lia
   rw[et];generalize dy A (B.take j) s=S0 at hlen;refine⟨_,bv t 5,Sf.weak (ρ1:=[.val<|.tup [.str<|ul kk,sY a,sY b],.val<|.So A,.TQ<|gE S0 p.1<|(du S0 p.1).getD 0+s*p.2,.un,.val<|.So B,.val<|M3 p]) (aw<|la t (bK (vf t (k:=p.1) (Dy t 2 rfl)<|ac (aa t 5)<|ac af ah)<|gj (aY (d:=.int s) (Ss.toQ<|bE<|ac af<|ac (qU af) ah) (gX t b3<|Se.eq (oR t (aY (d:=.str<|ul kk) (Se.qt<|aa t 0) af rfl) Sd<|vx kk)<|by rw[N9 lv.1])<|by rw[<-esg];exact MN _) (AH t (Se.dr<|aa t 4) (aa t 5) hv)<|by rcases hs with rfl |rfl<;>exact iO (by decide)<|by decide)<|AM (k:=p.1) t 2 rfl (aa t 5)<|by rw[y8];lia)<|.keep<|.keep<|.keep<|.keep<|.keep<|.forget .nil⟩
def Tf.Xe{α:Type}(gd fd:α->D)(b:α->Bool)(R:α->cA):∀(xs:List α)(ρ:cA),(∀x∈xs,Ve X ρ tg (gd x)<|R x)->(∀x∈xs,∀y∈xs,Ve X (R x) tg (gd y)<|R y)->(∀x∈xs,Sg X (R x) c<|b x)->(∀x∈xs,Se X (R x) elt<|fd x)->Tf X tg elt [c] (xs.map gd) ρ ((xs.filter b).map fd)|[],ρ,_,_,_,_=>.nil|x::xs,ρ,h1,h2,h3,h4=>by have ih:=Tf.Xe gd fd b R xs (R x) (λe he=>h2 x (by simp) e<|by simp[he]) (λa ha e he=>h2 a (by simp[ha]) e<|by simp[he]) (λe he=>h3 e<|by simp[he]) λe he=>h4 e (by simp[he]);have t3:=h3 x (by simp);rw[aP,nQ];cases q:b x with|true=>rw[q]at t3;rw[ax rfl,aP];exact .take (h1 x<|by simp) (.inr ⟨c,rfl,t3⟩) (h4 x<|by simp) ih|false=>rw[q]at t3;rw[av ay];exact .skip (h1 x<|by simp) rfl t3 ih
def El(T:TK):TK:=T.filter λu=>lo<|u.headD 0
def uP(cs:bZ)(T:TK):Option Tr:=if(El T).all xh=false then none else if 1000<cs.length\/20<JV T T.length then none else match g T 21 0 with
  |(some t,e)=>if e=T.length then some t else none
  |(none,_)=>none
def rp(ds:aQ)(d:D):Prop:=∃(cs:bZ)(T:TK),ds=[.str<|S cs]/\Mk cs T/\(∀c∈cs,c<128)/\cs.length<=20000/\d=nW (uP cs T)
def Aw:∀ds d,rp ds d->ds.length=1:=by rintro _ _ ⟨_,_,rfl,_⟩;rfl
def Mk.lt(h:Mk cs T)(ha:∀c∈cs,c<128):∀u∈T,∀c∈u,c<128:=λu hu c hc=>ha c<|(h.mem u hu).2.1 c hc
def DU(h:DefX P w K mg base k rh (ai m4) X)(Sm:mg "len"=none)(Vk:mg "all"=none)(c1:EV.Callee X "_law_marks" nO)(c2:EV.Callee X "_law_is_number" gw)(c3:EV.Callee X "_law_open" pD)(c4:EV.Callee X "_law_tree_sum" (LC g 21)):Go X rh m4 rp:=by
 rintro ds d ⟨cs,T,rfl,hm,ha,hz,rfl⟩;have t:=h.at';haveI:=h.S5;have b1:=h.bt Sm;have b2:=h.bt Vk;have lt:=hm.lt ha;have hT:T.length<=20000:=by have:=hm.nb;have:=Lu cs;lia
 have hl:∀u∈T,u.length<=20000:=λu hu=>by have:=(hm.mem u hu).2.2;lia
 have cw:PyData.canLayAll0 (Sq [D.str "x",.str "y"])=true:=by decide
 have rm:∀u∈El T,u∈T:=λu hu=>(List.mem_filter.mp hu).1;have rl:(El T).length<=20000:=ao (yi _ _) hT;show Sf X [.val<|.str<|S cs,.un,.un,.un,.un] _ _;refine au (aX t 1<|aG t c1 (ac (aa t 0) ah) ⟨cs,T,rfl,hm,ha,hz,rfl⟩) ?_;refine au (Fq (rs:=az<|El T) t 2 ["_law_text_here","_law_marks_here","_law_runs","_law_tree","_law_end","_law_mark_here"] (IV<|by decide) (qZ<|aa t 1) (by rw[kz];exact Ab<|by lia) λX' cx=>?_)<|eE 2 rfl ?_
 ·exact Tf.Xe (λu=>D.str<|S u) (λu=>D.str<|S u) (λu=>lo<|u.headD 0) (λu=>[.val<|.str<|S cs,.val<|.lst<|az T,.un,.un,.un,.val<|.str<|S u]) T _ (λx hx=>df cx.at' 5) (λx hx y hy=>df cx.at' 5) (λu hu=>by
   obtain⟨c,u',rfl⟩:∃c u',u=c::u':=by cases u with|nil=>exact absurd rfl (hm.mem _ hu).1|cons c cs=>exact⟨c,cs,rfl⟩
   exact lS (w:=SG) (c9 (c:=c) (aa cx.at' 5 rfl) af (TN (hl _ hu)) (by rw[eD];exact dJ (j:=0) rfl)) Sd (wn c (lt _ hu c (by simp)))) λu hu=>aa cx.at' 5 rfl
 have eal:((El T).map xh).all id=(El T).all xh:=by rw[Gj];rfl
 refine iT (u:=!(El T).all xh) (nu<|Sg.eq (jJ<|AI (bs:=(El T).map xh) t b2<|Ss.toQ<|Ss.eq (ka (rs:=(El T).map λu=>D.bl<|xh u) t ["_law_text_here","_law_marks_here","_law_runs","_law_tree","_law_end","_law_mark_here"] (IV<|by decide) (qZ<|aa t 2) (by rw[kz];exact Ab<|by lia) λX' cx=>?_)<|by rw[cj];rfl) eal) (λv=>aw<|bg<|Se.eq gh ?_) λv=>?_;·exact Tf.gen (λu=>D.str<|S u) (λu=>D.bl<|xh u) (λu=>[.val<|.str<|S cs,.val<|.lst<|az T,.val<|.lst<|az<|El T,.un,.un,.val<|.str<|S u]) (El T) _ (λx hx=>df cx.at' 5) (λx hx y hy=>df cx.at' 5) λu hu=>Se.eq (H8 (aG cx.at' (cx.callee c2) (ac (aa cx.at' 5 rfl) ah) ⟨u,rfl,lt u<|rm u hu,hl u<|rm u hu,rfl⟩) λ_=>Nr (r:=decide<|u∈([[120],[121]]:TK)) cx.at' (aa cx.at' 5 rfl) (aF<|ac Sd<|ac Sd ah) (dN<|dA<|lt u<|rm u hu) (dk _) cw<|by rw[D4];exact jX _ _)<|by unfold xh;congr 2;by_cases q1:u=[120]<;>by_cases q2:u=[121]<;>simp[q1,q2]
 ·unfold uP;rw[ax<|by simpa using v];rfl
 have v1:(El T).all xh≠false:=by simpa using v
 refine iT (u:=decide (1000<cs.length)||decide (20<JV T T.length)) (Sg.eq (fG (fg (dB t b1 (aa t 0)<|TN hz) af) λ_=>fg (aG t c3 (ac (aa t 1)<|ac Sd<|ac Sd ah) ⟨T,rfl,lt,rfl⟩) af) ?_) (λv=>aw<|bg<|Se.eq gh ?_) λv=>?_;·rw[cq];congr 1;simp only[bI];lia
 ·unfold uP;rw[av v1,ax<|by simpa using v];rfl
 have v2:¬(1000<cs.length\/20<JV T T.length):=by
  have:=Bool.or_eq_false_iff.mp v;intro z;rcases z with z |z;·exact cp this.1 z
  ·exact cp this.2 z
 have ok:Xk T:=⟨lt,hl,(Ap T 20 (by decide) T.length).mp<|by lia⟩;refine au (la t (d:=xt<|g T 21 0) (aG t c4 (ac (aa t 1)<|ac af ah) ⟨T,0,rfl,ok,rfl,rfl⟩)<|gG t<|bN (bv t 3)<|bN (bv t 4) fx) ?_;unfold uP;rw[av v1,av v2];show Sf X [.val<|.str<|S cs,.val<|.lst<|az T,.val<|.lst<|az<|El T,.val<|nW (g T 21 0).1,.val<|.int (g T 21 0).2] _ _;cases g T 21 0 with
 |mk o e=>
  cases o with
  |none=>exact iT (Sg.eq (fG (u:=true) (v:=false) (Sg.eq (iS<|aa (d:=.Sy) t 3 rfl) rfl) λz=>nomatch z) rfl) (λ_=>aw<|bg gh) λz=>nomatch z
  |some tr=>
   refine iT (u:=!decide (e=T.length)) (Sg.eq (fG (Sg.eq (iS<|aa t 3)<|oK tr) λ_=>oS (aa t 4)<|eC t b1<|Se.ql<|aa t 1) ?_) (λq=>aw<|bg<|Se.eq gh ?_) λq=>aw<|bg<|Se.eq (aa t 3) ?_;·rw[iz,kz];congr 1;simp only[bI];lia
   ·show _=nW (if e=T.length then _ else _);rw[av<|by simpa using q];rfl
   ·show _=nW (if e=T.length then _ else _);rw[ax<|by simpa using q]
def zf{o c:bZ}:∀{ts:List bZ},(∀u∈ts,u≠o/\u≠c)->iV o c ts=0|[],_=>rfl|u::ts,h=>by have:=h u (by simp);rw[iV,zf λv hv=>h v<|by simp[hv],ak λz=>this.1<|fP z,ak λz=>this.2<|fP z];rfl
def xi{tr:Tr}(h:g T 21 0=(some tr,T.length)):∀u∈T,PY u:=λu hu=>by obtain⟨i,hi,rfl⟩:=pY hu;have:=(fN T 21 0 tr T.length h).good i (bR _) hi;unfold cz at this;rw[List.getD_eq_getElem?_getD,List.getElem?_eq_getElem hi]at this;exact this
def Kb{T:TK}(h:∀u∈T,PY u):(El T).all xh=true:=nR.mpr λu hu=>by
 obtain⟨h1,h2⟩:=List.mem_filter.mp hu;rcases h u h1 with z |z;·exact z
 ·have:∀u∈([[40],[41],[42],[43],[45],[94]]:TK),lo (u.headD 0)=false:=by decide
  rw[this u z]at h2;cases h2
def Cg{T:TK}{tr:Tr}(h:uP cs T=some tr):cs.length<=1000/\pp T/\g T 21 0=(some tr,T.length):=by
 unfold uP at h;split at h;·cases h
 ·split at h;·cases h
  ·rename_i q;split at h
   ·rename_i t e eg;split at h
    ·rename_i ee;subst ee;injection h with h;subst h;have gd:=xi eg;refine⟨by lia,⟨(Ap T 20 (by decide) T.length).mp<|by lia,λi _=>?_⟩,eg⟩;rw[zf λu hu=>?_];·decide
     ·rcases gd u (cg hu)with z |z;·refine⟨λy=>?_,λy=>?_⟩<;>(subst y;exact absurd z<|by decide)
      ·have:∀u∈([[40],[41],[42],[43],[45],[94]]:TK),u≠[91]/\u≠[93]:=by decide
       exact this u z
    ·cases h
   ·cases h
def Ij{T:TK}(h:uP cs T=none)(hl:cs.length<=1000)(hd:pp T)(tr:Tr):g T 21 0≠(some tr,T.length):=λe=>by unfold uP at h;rw[av<|by rw[Kb<|xi e];simp,av<|by have:=(Ap T 20 (by decide) T.length).mpr hd.1;lia,e]at h;dsimp only at h;rw[ax rfl]at h;cases h
def Nx{cs:bZ}(ha:∀c∈cs,c<128)(hx:∀c∈cs,c≠33)(hl:cs.length<=20000):∃T,Mk cs T/\((uP cs T=none/\gl [.str<|S cs])\/∃tr,uP cs T=some tr/\IJ (cl tr)/\2*dT (cl tr)<=T.length+2/\(CQ (cl tr)->jK [.str<|S cs] (bo<|nz<|kr<|cl tr))):=by
 rcases Lj cs.length cs (ar _) hx with⟨T,hT⟩ |hb
 ·have hm:=hT.mk ha;refine⟨T,hm,?_⟩;cases e:uP cs T with
  |none=>
   refine .inl ⟨rfl,.str<|S cs,rfl,?_⟩;by_cases q:1000<cs.length;·exact .inl<|.inr ⟨cs,rfl,ha,hl,.inl q⟩
   ·by_cases q2:pp T;·exact .inr ⟨cs,T,rfl,hT,ha,by lia,q2,Ij e (by lia) q2⟩
    ·exact .inl<|.inr ⟨cs,rfl,ha,hl,.inr<|.inr ⟨T,hT,q2⟩⟩
  |some tr=>obtain⟨h1,h2,h3⟩:=Cg e;have A:=Pi T 21 0 tr T.length h3;exact .inr ⟨tr,rfl,A.lv,by have:=A.dt;lia,λhb=>⟨cs,T,tr,_,rfl,hT,ha,h1,h2,h3,Ib A.lv hb,rfl⟩⟩
 ·obtain⟨T,hm,u,hu,hn⟩:=hb.mk ha;refine⟨T,hm,.inl ⟨?_,.str<|S cs,rfl,.inl<|.inr ⟨cs,rfl,ha,hl,.inr<|.inl hb⟩⟩⟩;cases e:uP cs T with|none=>rfl|some tr=>exact absurd (xi (Cg e).2.2 u hu) hn
abbrev OI:D:=.tup [.str "refused",.bl true]
abbrev Of(b:D):D:=.tup [.str "told",b]
def iX(ds:aQ)(d:D):Prop:=(gl ds/\d=OI)\/∃b,jK ds b/\d=Of b
def mE:∀ds d,iX ds d->ds.length=1:=by
 rintro ds d (⟨h,_⟩ |⟨b,h,_⟩);·exact oI ds h
 ·exact qz ds b h
structure uA(K:ce)(mg:rG)(C:Addr)(y:Str):Prop where
 ex:∃D,mg y=some (.ref D)/\PySem.W.kitOne K (.ref C) (.ref D)=some false
def kh(ds:aQ)(d:D):Prop:=∃cs:bZ,ds=[.str<|S cs]/\(∀c∈cs,c<128)/\(∀c∈cs,c≠33)/\cs.length<=20000/\(cs.filter λc=>decide<|c≠32).length<=380/\d=.bl true
def ww:∀ds d,kh ds d->ds.length=1:=by rintro _ _ ⟨_,rfl,_⟩;rfl
def Dw{z:Str}(h:PyData.strOk z=true):Fn 1 (.str z):=⟨dN h,by simp[fS,PyData.depth],by simp[fS,PyData.eqv]⟩
def HV(ha:Fn n a)(hb:Fn n b):Fn (n+1) (.tup [a,b]):=Fn.tup λx hx=>by
 rcases List.mem_cons.mp hx with rfl |hx;·exact ha
 ·rw[bu.mp hx];exact hb
def Fn.up{m:Nat}(h:Fn n d)(e:n<=m):Fn m d:=⟨h.1,ao h.2.1 e,h.2.2⟩
def U3:Fn 2 OI:=HV (Dw<|by decide)<|Fn.bl true
def Dv(b:Bd):Fn 4 (Of<|bo b):=HV ((Dw<|by decide).up<|by decide)<|B8 b
def xb(h:DefX P w K mg base k kN (ai iI) X)(Tg:mg "isinstance"=none)(Ug:mg "ValueError"=none)(Zo:mg "any"=none)(xc:sU K C)(nT:mg "NoText"=some (.ref C))(qT:PySem.W.kitOne K (.ref C) (.ref C)=some true)(qV:PySem.W.kitOne K (.ref C) (.type "ValueError")=some true)(k1:uA K mg C "NoNumber")(k2:uA K mg C "NoRow")(k3:uA K mg C "NoEnds")(k4:uA K mg C "NoPlace")(k5:uA K mg C "NoKind")(k6:uA K mg C "NoHeight")(k7:uA K mg C "NoLine")(cW:EV.Callee X "read_term" jK)(cX:jB X "read_term" C gl)(O:OwnCls "StackError" Dc vB vN mg base)(hm:PySem.W.mroIn K C (.ref Dc)=some true):Go X kN iI iX:=by
 intro ds d hc;have hlen:=mE ds d hc
 obtain⟨x,rfl⟩:∃x,ds=[x]:=by
  match ds,hlen with|[x],_=>exact⟨x,rfl⟩
 have t:=h.at';haveI:=h.S5;have O':OwnCls "StackError" Dc vB vN X.mg X.base:=by rw[h.Up,h.Uk];exact O
 have b1:=h.bt Tg;have b2:=h.bt Ug;have b3:=h.bt Zo;have Xn:sU X.K C:=by rw[h.k'];exact xc
 have nT':X.mg "NoText"=some (.ref C):=by rw[h.Up];exact nT
 have qT':PySem.W.kitOne X.K (.ref C) (.ref C)=some true:=by rw[h.k'];exact qT
 have qV':PySem.W.kitOne X.K (.ref C) (.type "ValueError")=some true:=by rw[h.k'];exact qV
 have ZD:PySem.W.mroIn X.K C (.ref Dc)=some true:=by rw[h.k'];exact hm
 have kn:∀{y:Str},uA K mg C y->∃D,X.mg y=some (.ref D)/\PySem.W.kitOne X.K (.ref C) (.ref D)=some false:=λ{y}z=>by rw[h.Up,h.k'];exact z.ex
 obtain⟨_,a1,q1⟩:=kn k1;obtain⟨_,a2,q2⟩:=kn k2;obtain⟨_,a3,q3⟩:=kn k3;obtain⟨_,a4,q4⟩:=kn k4;obtain⟨_,a5,q5⟩:=kn k5;obtain⟨_,a6,q6⟩:=kn k6;obtain⟨_,a7,q7⟩:=kn k7;show Sf X [.val x,.un,.un,.un,.un] _ _;refine au (aX t 1 gh)<|au (aX t 2 gh) ?_;show Sf X [.val x,.val .Sy,.val .Sy,.un,.un] _ _;rcases hc with⟨hr,rfl⟩ |⟨b,hr,rfl⟩;·refine au (ρ':=[.val x,.val<|.exc C,.val .Sy,.un,.un]) (Js (o:=λea=>.nx [.val x,.val<|.exc C,.val .Sy,.val<|.VJ C ea,.un]) t h.UN 3 (mP<|Gu<|qG t cX (ac (aa t 0) ah) hr) O' ZD (λea=>aw<|N6 (t.VA ea) (λx=>h.S5.fn x) 1<|Se.soft<|LR (t.VA ea) 3 rfl) (ho:=λea B F E q=>q)) ?_;refine au (cB (Sg.eq (iS<|aa (d:=.exc C) t 1 rfl) rfl) bQ) ?_;refine au (aX (d:=.lst [.bl false,.bl false,.bl false]) t 4<|Ss.SF<|bE<|ac (lC t b1 Xn a1 (aa t 1) q1)<|ac (lC t b1 Xn a2 (aa t 1) q2)<|ac (lC t b1 Xn a3 (aa t 1) q3) ah) ?_;refine au (aX (d:=.lst [.bl false,.bl false,.bl false,.bl false,.bl false,.bl false]) t 4<|Ss.SF<|fq (xs:=[.bl false,.bl false,.bl false]) (ys:=[.bl false,.bl false,.bl false]) (aa t 4) (Ss.SF<|bE<|ac (lC t b1 Xn a4 (aa t 1) q4)<|ac (lC t b1 Xn a5 (aa t 1) q5)<|ac (lC t b1 Xn a6 (aa t 1) q6) ah)<|by decide) ?_;refine au (aX (d:=.lst [.bl false,.bl false,.bl false,.bl false,.bl false,.bl false,.bl false,.bl false]) t 4<|Ss.SF<|fq (xs:=[.bl false,.bl false,.bl false,.bl false,.bl false,.bl false]) (ys:=[.bl false,.bl false]) (aa t 4) (Ss.SF<|bE<|ac (lC t b1 Xn a7 (aa t 1) q7)<|ac (EO (r:=true)<|Kp t b1 Xn b2 (aa t 1) qV') ah)<|by decide) ?_;exact aw<|bg<|aF<|ac Sd<|ac (Se.eq (vh (u:=true) (v:=true) (lC t b1 Xn nT' (aa t 1) qT') λ_=>EO (r:=false)<|Nu (bs:=[false,false,false,false,false,false,false,false]) t b3<|Se.ql<|aa t 4) rfl) ah
 ·refine au (OF t<|aw<|aX t 2<|aG t cW (ac (aa t 0) ah) hr) ?_;exact fm<|dD (Sg.eq (iS<|aa (d:=.Sy) t 1 rfl) rfl)<|aw<|bg<|aF<|ac Sd<|ac (aa t 2) ah
def Bf(h:DefX P w K mg base k nI (ai j6) X)(c1:EV.Callee X "_law_due" rp)(c2:EV.Callee X "_law_refused" iX)(c3:EV.Callee X "_law_bounds" (BC 191))(c4:EV.Callee X "_law_meant" (MC 191))(c5:EV.Callee X "_law_board_of" jR):Go X nI j6 kh:=by
 rintro ds d ⟨cs,rfl,ha,hx,hl,hnb,rfl⟩;have t:=h.at';haveI:=h.S5;obtain⟨T,hm,hd⟩:=Nx ha hx hl;have hT:=hm.nb;have p30:((10:Int) ^ (30:Int).toNat)=((10 ^ 30:Nat):Int):=by decide
 show Sf X [.val<|.str<|S cs,.un,.un] _ _;refine au (aX t 1<|aG t c1 (ac (aa t 0) ah) ⟨cs,T,rfl,hm,ha,hl,rfl⟩) ?_;rcases hd with⟨e,hr⟩ |⟨tr,e,lv,hd2,hc⟩;·rw[e];exact fm<|dD (Sg.eq (iS<|aa (d:=.Sy) t 1 rfl) rfl)<|aw<|bg<|AG t (Se.p<|aG t c2 (ac (aa t 0) ah)<|.inl ⟨hr,rfl⟩) (Se.p<|aF<|ac Sd<|ac Cb ah) (U3.sh<|by decide) (U3.sh<|by decide) U3.2.2
 ·rw[e];refine au (cB (Sg.eq (iS<|aa (d:=nW<|some tr) t 1 rfl)<|oK tr) bQ)<|au (aX t 2<|aG t c3 (ac (aa t 1) ah) ⟨cl tr,rfl,lv,by lia,by lia,rfl⟩) ?_;refine iT (u:=decide (9<(cK<|cl tr).1)||decide (10 ^ 30<(cK<|cl tr).2)) (Sg.eq (fG (fg (aY (d:=.int (cK<|cl tr).1) (Se.qt<|aa t 2) af rfl) af) λ_=>fg (aY (d:=.int (cK<|cl tr).2) (Se.qt<|aa t 2) af rfl)<|Se.eq (wK af af ⟨by decide,by decide,by decide⟩)<|aV D.int p30) ?_) (λv=>aw<|bg Cb) λv=>?_;·congr 1<;>(simp only[bI];lia)
  have hb:CQ (cl tr):=by have:=Bool.or_eq_false_iff.mp v;have h1:=cp this.1;have h2:=cp this.2;exact⟨by lia,by lia⟩
  exact aw<|bg<|AG t (Se.p<|aG t c2 (ac (aa t 0) ah)<|.inr ⟨_,hc hb,rfl⟩) (Se.p<|aF<|ac Sd<|ac (aG t c5 (ac (aG t c4 (ac (aa t 1) ah) ⟨cl tr,rfl,lv,by lia,hb,rfl⟩) ah) ⟨kr<|cl tr,rfl,rfl⟩) ah) ((Dv _).sh<|by decide) ((Dv _).sh<|by decide) (Dv _).2.2
def NY(b:Bool):bZ:=if b then [43]else [45]
structure Ot where
 tk:TK
 kv:fA
 xs:bh
def bV(ns:bh):Int:=ns.getLast?.getD 0
def mx(deep:Nat)(x:Int):Int:=([x / 6%10,x / 6%10,x / 6%(if 0<deep then 1000 else 10),0]:bh).getD (x / 60%4).toNat 0
def zl(deep:Nat)(sm:bh->Nat->Ot)(xs:bh)(room:Nat):Ot:=if 0<room/\bV xs%6<2 then⟨[[120]],[(nk 1 0,1)],xs.dropLast⟩else if 0<room/\bV xs%6<4 then⟨[[121]],[(nk 0 1,1)],xs.dropLast⟩else if 0<deep/\bV xs%6=5 then⟨[40]::((sm xs.dropLast room).tk++[[41]]),(sm xs.dropLast room).kv,(sm xs.dropLast room).xs⟩else⟨[qM (mx deep<|bV xs).toNat],[(nk 0 0,mx deep<|bV xs)],xs.dropLast⟩
def tF(x:Int):Nat:=([1,1,1,2,0,3]:bZ).getD (x%6).toNat 0
def Gm(x:Int):Nat:=([0,0,0,0,1,1,2,3]:bZ).getD (x / 48%8).toNat 0
def Ep(o:Ot)(x:Int):Nat:=if o.tk.head?=some [40]then min 2 (tF x)else tF x
def HZ(atm:bh->Nat->Ot)(xs:bh)(room:Nat):Ot:=
  let x:=bV xs
  let o:=atm xs.dropLast<|room / max 1 (tF x)
  let p:=Ep o x
  ⟨List.replicate (Gm x) [45]++(if p≠1\/x / 6%8=1 then o.tk++[[94],[48+p]]else o.tk),if Gm x%2=1 then dy [] (hU o.kv p) (-1)else hU o.kv p,o.xs⟩
def Kf(xs:bh)(room:Nat):Nat:=(bV xs%((room:Int)+1)).toNat
def He(Yz:bh->Nat->Ot)(xs:bh)(room:Nat):Ot:=
 let o:=Yz xs.dropLast<|Kf xs room
 if 0<bV o.xs%3 then
  let q:=Yz o.xs.dropLast<|room-Kf xs room
  ⟨o.tk++[[42]]++q.tk,lw o.kv q.kv,q.xs⟩
 else⟨o.tk,o.kv,o.xs.dropLast⟩
def GQ(xs:bh):Bool:=decide<|bV xs%2=0
def rM(VY:bh->Nat->Ot)(room:Nat)(o:Ot):Ot:=
 let q:=VY o.xs.dropLast room
 ⟨o.tk++[NY<|GQ o.xs]++q.tk,dy o.kv q.kv (if GQ o.xs then 1 else-1),q.xs⟩
def iE(VY:bh->Nat->Ot)(room:Nat)(o:Ot):Nat->Ot|0=>o|n+1=>rM VY room<|iE VY room o n
def GM(VY:bh->Nat->Ot)(xs:bh)(room:Nat):Ot:=
 let o:=VY xs room
 iE VY room {o with xs:=o.xs.dropLast} (bV o.xs%3).toNat
def gR:Nat->bh->Nat->Ot
 |0=>zl 0 λxs _=>⟨[],[],xs⟩
 |n+1=>zl (n+1)<|GM<|He<|HZ<|gR n
abbrev kQ(n:Nat):=HZ<|gR n
abbrev gc(n:Nat):=He<|kQ n
abbrev kU(n:Nat):=GM<|gc n
def Ac(deep:Nat)(x:Int):0<=mx deep x/\mx deep x<(if 0<deep then 1000 else 10):=by
 have h6:0<=x / 6%10/\x / 6%10<10:=⟨by lia,by lia⟩;have h7:0<=x / 6%(if 0<deep then 1000 else 10)/\x / 6%(if 0<deep then 1000 else 10)<(if 0<deep then 1000 else 10):=by split<;>lia
 have h8:(10:Int)<=(if 0<deep then 1000 else 10):=by split<;>decide
 unfold mx;have h:(x / 60%4).toNat<4:=by lia
 generalize(x / 60%4).toNat=n at h
 match n,h with
 |0,_=>exact⟨h6.1,by show x / 6%10<_;lia⟩|1,_=>exact⟨h6.1,by show x / 6%10<_;lia⟩
 |2,_=>exact h7|3,_=>exact⟨Int.le_refl _,by show(0:Int)<_;lia⟩
 |n+4,h=>lia
def Dh{n k:Nat}(hk:0<k)(h:n<10 ^ k):(qM n).length<=k/\1<=(qM n).length:=by
 refine⟨?_,?_⟩;·unfold qM;rw[aj];exact(Nat.length_toDigits_le_iff (by decide) hk).mpr h
 ·cases e:qM n with|nil=>exact absurd e (EA n)|cons a b=>simp
def Lc(x:Int):tF x<=3:=by
 unfold tF;have h:(x%6).toNat<6:=by lia
 generalize(x%6).toNat=n at h
 match n,h with
 |0,_=>decide|1,_=>decide
 |2,_=>decide|3,_=>decide
 |4,_=>decide|5,_=>decide
 |n+6,h=>lia
def Li(x:Int):Gm x<=3:=by
 unfold Gm;have h:(x / 48%8).toNat<8:=by lia
 generalize(x / 48%8).toNat=n at h
 match n,h with
 |0,_=>decide|1,_=>decide
 |2,_=>decide|3,_=>decide
 |4,_=>decide|5,_=>decide
 |6,_=>decide|7,_=>decide
 |n+8,h=>lia
def G8(o:Ot)(x:Int):Ep o x<=tF x:=by unfold Ep;split<;>lia
def Ls(xs:bh)(room:Nat):Kf xs room<=room:=by have:=rD (bV xs) (show(0:Int)<(room:Int)+1 by lia);have:=ft (bV xs) (show(room:Int)+1≠0 by lia);unfold Kf;lia
def og(u:bZ):Prop:=u≠[]/\∀c∈u,c<128/\c≠33
def cT(tk:TK):Nat:=(tk.map List.length).sum
def fJ(a b:TK):cT (a++b)=cT a+cT b:=by unfold cT;rw[aN,KS]
def sO(u:bZ)(b:TK):cT (u::b)=u.length+cT b:=rfl
def wV(u:bZ):∀n,cT (List.replicate n u)=n*u.length|0=>by rw[Nat.zero_mul];rfl|n+1=>by rw[bc,sO,wV u n,mh];lia
def t6:∀{tk:TK},(∀u∈tk,og u)->tk.length<=cT tk|[],_=>ar _|u::b,h=>by have:=t6 (tk:=b) λv hv=>h v (by simp[hv]);have l:=List.length_pos_iff.mpr (h u<|by simp).1;rw[sO,bp];lia
def oh{c:Nat}(h:c<128/\c≠33):og [c]:=⟨by simp,λx hx=>by rw[bu.mp hx];exact h⟩
def K5(n:Nat):og (qM n):=⟨EA n,λc hc=>by have:=Nh c hc;lia⟩
def dI{a b:TK}(ha:∀u∈a,og u)(hb:∀u∈b,og u):∀u∈a++b,og u:=λu hu=>(List.mem_append.mp hu).elim (ha u)<|hb u
def e9(h:og u):∀v∈[u],og v:=λv hv=>by rw[bu.mp hv];exact h
def u5(h:og u)(n:Nat):∀v∈List.replicate n u,og v:=λv hv=>by rw[(List.mem_replicate.mp hv).2];exact h
def GI(b:Bool):og (NY b)/\(NY b).length=1:=by cases b<;>exact⟨oh<|by decide,rfl⟩
structure OV(m M c nx:Nat)(o:Ot):Prop where
 ko:TX o.kv
 kd:TM (m+1) o.kv
 nb:iu o.kv<=M
 tk:∀u∈o.tk,og u
 wd:cT o.tk<=c
 xl:o.xs.length<=nx
 ne:o.tk≠[]
def Fb{deep M c S:Nat}{sm:bh->Nat->Ot}(hs:0<deep->∀xs room,room<=10->OV room S s xs.length (sm xs room))(h1:S<=M)(h2:1<=M)(h3:∀x,(mx deep x).toNat<=M)(h4:0<deep->s+2<=c)(h5:∀x,(qM (mx deep x).toNat).length<=c)(h6:1<=c)(xs:bh)(room:Nat)(hr:room<=10):OV room M c xs.length (zl deep sm xs room):=by
 have hd:xs.dropLast.length<=xs.length:=by rw[bF];lia
 unfold zl;split;·exact⟨oF 1 0 1,qL 1 (by lia)<|by lia,h2,e9<|oh<|by decide,h6,hd,by simp⟩
 ·split;·exact⟨oF 0 1 1,qL 1 (by lia)<|by lia,h2,e9<|oh<|by decide,h6,hd,by simp⟩
  ·split
   ·rename_i z;have v:=hs z.1 xs.dropLast room hr;have h4':=h4 z.1;have:=v.wd;have:=v.xl;refine⟨v.ko,v.kd,ao v.nb h1,?_,?_,by show(sm xs.dropLast room).xs.length<=_;lia,by simp⟩;·exact dI (a:=[[40]]) (e9<|oh<|by decide)<|dI v.tk<|e9<|oh<|by decide
    ·show cT ([40]::_)<=c;rw[sO,fJ];show 1+(_+1)<=c;lia
   ·have g:=(Ac deep<|bV xs).1;have g3:=h3<|bV xs;refine⟨oF 0 0 _,qL _ (by lia)<|by lia,?_,e9<|K5 _,?_,hd,by simp⟩;·show(mx deep<|bV xs).natAbs+0<=M;lia
    ·show _+0<=c;have:=h5<|bV xs;lia
def HY{atm:bh->Nat->Ot}(hA:∀xs room,room<=10->OV room A c xs.length (atm xs room))(h1:1<=A)(xs:bh)(room:Nat)(hr:room<=10):OV room (A ^ 3) (c+5) xs.length (HZ atm xs room):=by
 have hd:xs.dropLast.length<=xs.length:=by rw[bF];lia
 have hq0:room / max 1 (tF<|bV xs)<=room:=Nat.div_le_self _ _;have v:=hA xs.dropLast (room / max 1 (tF<|bV xs)) (by lia);unfold HZ;dsimp only;generalize hq:room / max 1 (tF<|bV xs)=q at v;generalize atm xs.dropLast q=o at v;generalize hx:bV xs=x at hq;have hp3:=Lc x;have hpo:=G8 o x;have hm3:=Li x;have hpq:Ep o x*q<=room:=by
  by_cases h0:tF x=0;·rw[show Ep o x=0 by lia];lia
  ·rw[<-hq,show max 1 (tF x)=tF x by lia];exact ao (ge _ hpo)<|Nat.mul_div_le _ _
 have hp9:Ep o x<=3:=by lia
 generalize Ep o x=p at hpq hp9;have hnp:iu (hU o.kv p)<=A ^ 3:=ao (pM v.ko v.nb p)<|bM h1 hp9;have kp:=oA v.ko p;have WW:TM (room+1) (hU o.kv p):=(tH v.kd p).up (by lia);have tk2:(∀u∈(if p≠1\/x / 6%8=1 then o.tk++[[94],[48+p]]else o.tk),og u)/\cT (if p≠1\/x / 6%8=1 then o.tk++[[94],[48+p]]else o.tk)<=c+2/\(if p≠1\/x / 6%8=1 then o.tk++[[94],[48+p]]else o.tk)≠[]:=by
  have:=v.wd;split;·refine⟨dI v.tk<|dI (a:=[[94]]) (e9<|oh<|by decide)<|e9<|oh<|by lia,?_,by simp⟩;rw[fJ];show _+2<=_;lia
  ·exact⟨v.tk,by lia,v.ne⟩
 refine⟨?_,?_,?_,dI (u5 (oh<|by decide) _) tk2.1,?_,by have:=v.xl;show o.xs.length<=_;lia,?_⟩
 ·show TX (if Gm x%2=1 then _ else _);split;·exact(jt (-1) (λ_ _=>0) (hU o.kv p) [] .nil kp.keys).1
  ·exact kp
 ·show TM (room+1) (if Gm x%2=1 then _ else _);split;·exact mQ (-1) _ [] (λz hz=>nomatch hz) WW
  ·exact WW
 ·show iu (if Gm x%2=1 then _ else _)<=_;split;·exact ao (su (-1) rfl _ [] .nil kp.keys)<|by show 0+_<=_;lia
  ·exact hnp
 ·have:=tk2.2.1;rw[fJ,wV];show Gm x*1+_<=_;lia
 ·exactλz=>tk2.2.2 (List.append_eq_nil_iff.mp z).2
def Hd{Yz:bh->Nat->Ot}(hF:∀xs room,room<=10->OV room F c xs.length (Yz xs room))(f0:1<=F)(xs:bh)(room:Nat)(hr:room<=10):OV room (F*F) (2*c+1) xs.length (He Yz xs room):=by
 have hd:xs.dropLast.length<=xs.length:=by rw[bF];lia
 have hle:=Ls xs room;unfold He;dsimp only;generalize Kf xs room=a at hle;have v:=hF xs.dropLast a (by lia);generalize Yz xs.dropLast a=o at v;have w1:=v.wd;have x1:=v.xl;have hd2:o.xs.dropLast.length<=o.xs.length:=by rw[bF];lia
 split
 ·have g:=hF o.xs.dropLast (room-a) (by lia);generalize Yz o.xs.dropLast (room-a)=q at g;have w2:=g.wd;have x2:=g.xl;refine⟨Ak v.ko g.ko,?_,ao (wf v.ko g.ko)<|eV v.nb g.nb,dI (dI v.tk<|e9<|oh<|by decide) g.tk,?_,by show q.xs.length<=_;lia,by simp⟩;·have:=vY v.kd g.kd;rw[show a+(room-a)=room by lia]at this;exact this
  ·rw[fJ,fJ];show _+1+_<=_;lia
 ·exact⟨v.ko,v.kd.up<|by lia,ao v.nb<|Nat.le_mul_of_pos_left _ f0,v.tk,by show cT o.tk<=_;lia,by show o.xs.dropLast.length<=_;lia,v.ne⟩
def BH{VY:bh->Nat->Ot}(hP:∀xs,OV room P c xs.length<|VY xs room){o:Ot}(h0:OV room P c nx o):∀t,OV room ((t+1)*P) ((t+1)*(c+1)) nx (iE VY room o t)
 |0=>⟨h0.ko,h0.kd,by have:=h0.nb;show iu o.kv<=(0+1)*P;lia,h0.tk,by have:=h0.wd;show cT o.tk<=(0+1)*(c+1);lia,h0.xl,h0.ne⟩
 |t+1=>by
  have v:=BH hP h0 t;unfold iE rM;dsimp only;generalize iE VY room o t=u at v;have g:=hP u.xs.dropLast;have hd2:u.xs.dropLast.length<=u.xs.length:=by rw[bF];lia
  have x1:=v.xl;have x2:=g.xl;have w1:=v.wd;have w2:=g.wd;have n1:=v.nb;have n2:=g.nb;have sl:=(GI<|GQ u.xs).2;refine⟨(jt _ (λ_ _=>0) _ _ v.ko g.ko.keys).1,mQ _ _ _ v.kd g.kd,ao (su _ (by split<;>rfl) _ _ v.ko g.ko.keys) ?_,dI (dI v.tk<|e9 (GI _).1) g.tk,?_,by show(VY u.xs.dropLast room).xs.length<=_;lia,by simp⟩;·rw[mh<|t+1];lia
  ·rw[fJ,fJ,mh<|t+1,sO,sl];show _+(1+0)+_<=_;lia
def GL{VY:bh->Nat->Ot}(hP:∀xs room,room<=10->OV room P c xs.length (VY xs room))(xs:bh)(room:Nat)(hr:room<=10):OV room (3*P) (3*(c+1)) xs.length (GM VY xs room):=by
 have v:=hP xs room hr;unfold GM;dsimp only;generalize VY xs room=o at v;have hd2:o.xs.dropLast.length<=o.xs.length:=by rw[bF];lia
 have h3:(bV o.xs%3).toNat<=2:=by lia
 have g:=BH (room:=room) (nx:=xs.length) (λys=>hP ys room hr) (o:={o with xs:=o.xs.dropLast}) ⟨v.ko,v.kd,v.nb,v.tk,v.wd,by have:=v.xl;show o.xs.dropLast.length<=_;lia,v.ne⟩ (bV o.xs%3).toNat;exact⟨g.ko,g.kd,ao g.nb<|ge _<|by lia,g.tk,ao g.wd<|ge _<|by lia,g.xl,g.ne⟩
def L8(deep:Nat)(x:Int):(mx deep x).toNat<(if 0<deep then 1000 else 10):=by
 obtain⟨h1,h2⟩:=Ac deep x;split;·rename_i z;rw[ax z]at h2;lia
 ·rename_i z;rw[av z]at h2;lia
def Ox(x:Int):(mx 1 x).toNat<1000:=L8 1 x
def YT(xs:bh)(room:Nat)(hr:room<=10):OV room 9 1 xs.length (gR 0 xs room):=Fb (S:=0) (s:=0) (λz=>absurd z<|by lia) (by decide) (by decide) (λx=>by have:=L8 0 x;simp at this;lia) (λz=>absurd z<|by lia) (λx=>(Dh (by decide)<|by have:=L8 0 x;simp at this;lia).1) (by decide) xs room hr
def P4(xs:bh)(room:Nat)(hr:room<=10):OV room (9 ^ 3) 6 xs.length (kQ 0 xs room):=HY YT (by decide) xs room hr
def P2(xs:bh)(room:Nat)(hr:room<=10):OV room (9 ^ 3*9 ^ 3) 13 xs.length (gc 0 xs room):=Hd P4 (by decide) xs room hr
def Oz(xs:bh)(room:Nat)(hr:room<=10):OV room (3*(9 ^ 3*9 ^ 3)) 42 xs.length (kU 0 xs room):=GL P2 xs room hr
def Q7(xs:bh)(room:Nat)(hr:room<=10):OV room 1594323 44 xs.length (gR 1 xs room):=Fb (S:=3*(9 ^ 3*9 ^ 3)) (s:=42) (λ_ xs room hr=>Oz xs room hr) (by decide) (by decide) (λx=>ao (Gh<|Ox x)<|by decide) (λ_=>by decide) (λx=>ao (Dh (k:=3) (by decide)<|Ox x).1<|by decide) (by decide) xs room hr
def P3(xs:bh)(room:Nat)(hr:room<=10):OV room (1594323 ^ 3) 49 xs.length (kQ 1 xs room):=HY Q7 (by decide) xs room hr
def P1(xs:bh)(room:Nat)(hr:room<=10):OV room (1594323 ^ 3*1594323 ^ 3) 99 xs.length (gc 1 xs room):=Hd P3 (by decide) xs room hr
def RB(xs:bh)(room:Nat)(hr:room<=10):OV room (3*(1594323 ^ 3*1594323 ^ 3)) 300 xs.length (kU 1 xs room):=GL P1 xs room hr
def Jg{kv:fA}(h:iu kv<=10 ^ 30):VB (2 ^ 999) kv:=Di<|ao h<|ao (show 10 ^ 30<=2 ^ 100 by decide)<|bM (by decide)<|by decide
def OV.l{o:Ot}(h:OV m M c nx o):o.tk.length<=c:=ao (t6 h.tk) h.wd
def xD{a:Nat}(h:a<=5000):a<=sizeLine:=ao h<|fK rfl
def qH{n:Nat}{room:Nat}(hn:n=0\/n=1)(hr:room<=6):(gR n ns room).tk.length<=620/\(kQ n ns room).tk.length<=620/\(gc n ns room).tk.length<=620/\(kU n ns room).tk.length<=620:=by
 rcases hn with rfl |rfl;·exact⟨ao (YT ns room<|by lia).l<|by decide,ao (P4 ns room<|by lia).l<|by decide,ao (P2 ns room<|by lia).l<|by decide,ao (Oz ns room<|by lia).l<|by decide⟩
 ·exact⟨ao (Q7 ns room<|by lia).l<|by decide,ao (P3 ns room<|by lia).l<|by decide,ao (P1 ns room<|by lia).l<|by decide,ao (RB ns room<|by lia).l<|by decide⟩
def CW{n:Nat}{room:Nat}(hn:n=0\/n=1)(ns:bh)(hr:room<=6):(kQ n ns room).xs.length<=ns.length/\(gc n ns room).xs.length<=ns.length:=by
 rcases hn with rfl |rfl;·exact⟨(P4 ns room<|by lia).xl,(P2 ns room<|by lia).xl⟩
 ·exact⟨(P3 ns room<|by lia).xl,(P1 ns room<|by lia).xl⟩
def IB{n:Nat}(hn:n=0\/n=1)(ns:bh)(room:Nat)(hr:room<=6):TX (gR n ns room).kv/\TM (room+1) (gR n ns room).kv/\iu (gR n ns room).kv<=1594323/\∃u us,(gR n ns room).tk=u::us/\∀x∈u,x<128:=by
 have fin:∀{M c:Nat},OV room M c ns.length (gR n ns room)->M<=1594323->TX (gR n ns room).kv/\TM (room+1) (gR n ns room).kv/\iu (gR n ns room).kv<=1594323/\∃u us,(gR n ns room).tk=u::us/\∀x∈u,x<128:=λ{M c}v hM=>by have ne:=v.ne;have tk:=v.tk;refine⟨v.ko,v.kd,ao v.nb hM,?_⟩;cases e:(gR n ns room).tk with|nil=>exact absurd e ne|cons u us=>exact⟨u,us,rfl,λx hx=>((tk u<|by rw[e];simp).2 x hx).1⟩
 rcases hn with rfl |rfl;·exact fin (YT ns room<|by lia)<|by decide
 ·exact fin (Q7 ns room<|by lia)<|by decide
def B9{n:Nat}(hn:n=0\/n=1)(ns:bh)(room:Nat)(hr:room<=6):TX (kQ n ns room).kv/\TM (room+1) (kQ n ns room).kv/\iu (kQ n ns room).kv<=10 ^ 30:=by
 rcases hn with rfl |rfl;·have v:=P4 ns room (by lia);exact⟨v.ko,v.kd,ao v.nb<|by decide⟩
 ·have v:=P3 ns room (by lia);exact⟨v.ko,v.kd,ao v.nb<|by decide⟩
def v9{n:Nat}(hn:n=0\/n=1)(ns:bh)(room:Nat)(hr:room<=6):TX (gc n ns room).kv/\TM (room+1) (gc n ns room).kv:=by
 rcases hn with rfl |rfl;·have v:=P2 ns room (by lia);exact⟨v.ko,v.kd⟩
 ·have v:=P1 ns room (by lia);exact⟨v.ko,v.kd⟩
def e8(a b:List bZ):az (a++b)=az a++az b:=aN
def bY(a:List bZ):(az a).length=a.length:=aj _
abbrev iL(ns:bh):aQ:=ns.map D.int
def oD(o:Ot):D:=.tup [.lst<|az o.tk,.So o.kv]
def iq(ds xs:aQ)(d:D)(xs':aQ):Prop:=∃ns:bh,ds=[]/\xs=iL ns/\d=.int (bV ns)/\xs'=iL ns.dropLast
def xN:∀ds xs d xs',iq ds xs d xs'->ds.length+1=1:=by rintro _ _ _ _ ⟨_,rfl,_⟩;rfl
def nP(ds:aQ)(kvs:fA):Prop:=∃(A B:fA)(s:Int),ds=[.So A,.So B,.int s]/\TX A/\TM 10 A/\TX B/\TM 10 B/\(s=1\/s=-1)/\kvs=dy A B s
def Ax:∀ds d,nP ds d->ds.length=3:=by rintro _ _ ⟨_,_,_,rfl,_⟩;rfl
def CO(f:bh->Nat->Ot)(n:Nat)(ds xs:aQ)(d:D)(xs':aQ):Prop:=∃(ns:bh)(room:Nat),ds=[.int room,.int n]/\room<=6/\ns.length<=200/\xs=iL ns/\d=oD (f ns room)/\xs'=iL (f ns room).xs
def CO.len{f:bh->Nat->Ot}:∀ds xs d xs',CO f n ds xs d xs'->ds.length+1=3:=by rintro _ _ _ _ ⟨_,_,rfl,_⟩;rfl
abbrev pF(n:Nat):=CO (gR n) n
abbrev me(n:Nat):=CO (kQ n) n
abbrev pC(n:Nat):=CO (gc n) n
abbrev nN(n:Nat):=CO (kU n) n
def qB(n:Nat):∀ds xs d xs',pF n ds xs d xs'->ds.length+1=3:=CO.len
def nY(n:Nat):∀ds xs d xs',me n ds xs d xs'->ds.length+1=3:=CO.len
def qA(n:Nat):∀ds xs d xs',pC n ds xs d xs'->ds.length+1=3:=CO.len
def sw(n:Nat):∀ds xs d xs',nN n ds xs d xs'->ds.length+1=3:=CO.len
def Lo(ns:bh):ns=[]\/∃m i,ns=m++[i]:=by cases h:ns.getLast? with|none=>exact .inl (List.getLast?_eq_none_iff.mp h)|some y=>obtain⟨ys,e⟩:=List.getLast?_eq_some_iff.mp h;exact .inr ⟨ys,y,e⟩
def A7(h:DefX P w K mg base k pf (ai lj) X):Px X pf lj iq:=by
 rintro q ds xs d xs' ⟨ns,rfl,rfl,rfl,rfl⟩;have t:=h.at';haveI:=h.S5;show UZ X q [.val<|.TL q] _ _ _ _;rcases Lo ns with rfl |⟨m,i,rfl⟩;·exact EF<|qy (BF t 0 rfl (ns:=[]) rfl rfl)<|gx<|Hz<|Se.em af
 ·refine ef (nX (BF t 0 rfl (ns:=m++[i]) rfl<|by cases m<;>rfl) B2)<|gx<|Hz<|Nw t 0 rfl ?_;rw[Bu];show iL (m++[i])=iL m++[.int<|bV<|m++[i]];unfold bV iL;rw[List.getLast?_concat,aN];rfl
def Cv(h:DefX P w K mg base k UM (ai m5) X)(V4:mg "dict"=none):∀ds d,nP ds d->uB X (ds.map Sl.val++List.replicate (UM.length-ds.length) Sl.un) (aD m5) d:=by
 rintro ds d ⟨A,B,s,rfl,kA,iA,kB,iB,hs,rfl⟩;have t:=h.at';haveI:=h.S5;have b1:=h.bt V4;show uB X [.val<|.So A,.val<|.So B,.val<|.int s,.un,.un] _ _;refine sG (C9 t 3<|EY t b1 (Se.dr<|aa t 0)<|HH kA.nd iA)<|sG (ρ':=[.val<|.So A,.val<|.So B,.val<|.int s,.TQ<|dy A B s,.un]) (ik t (AL<|aa t 1)<|SJ.SY (λj=>[.val<|.So A,.val<|.So B,.val<|.int s,.TQ<|dy A (B.take j) s,.un]) (λj d e=>?_) rfl<|by rw[aj,bW])<|EW t 3 rfl;rw[List.getElem?_map]at e;cases e2:B[j]? with
 |none=>rw[e2]at e;cases e
 |some p=>
  rw[e2]at e;cases e;have hm:=List.mem_of_getElem? e2;have et:dy A (B.take<|j+1) s=gE (dy A (B.take j) s) p.1 ((du (dy A (B.take j) s) p.1).getD 0+s*p.2):=by rw[jr,e2];exact yq _ _ _ _
  have hv:du B p.1=some p.2:=mo kB.nd hm;have hlen:(dy A (B.take j) s).length<1000:=by have k1:=(jt s (λ_ _=>0) (B.take j) A kA λz hz=>kB.keys z<|cg hz).1;have:=wB k1 (mQ s (B.take j) A iA λz hz=>iB z<|cg hz);lia
  rw[et];generalize dy A (B.take j) s=S0 at hlen;refine⟨_,bv t 4,Sf.weak (ρ1:=[.val<|.So A,.val<|.So B,.val<|.int s,.TQ<|gE S0 p.1<|(du S0 p.1).getD 0+s*p.2,.val<|M3 p]) (aw<|la t (bK (vf t (k:=p.1) (Dy t 3 rfl)<|ac (aa t 4)<|ac af ah)<|gj (aa t 2) (AH t (Se.dr<|aa t 1) (aa t 4) hv)<|by rcases hs with rfl |rfl<;>exact iO (by decide)<|by decide)<|AM (k:=p.1) t 3 rfl (aa t 4)<|by rw[y8];lia)<|.keep<|.keep<|.keep<|.keep<|.forget .nil⟩
def N5:("(":Str)=S [40]:=by decide
def N4:(")":Str)=S [41]:=by decide
def sQ{n:Nat}(h:DefX P w K mg base k pk (ai lu) X)(hn:n=0\/n=1)(US:mg "str"=none)(Th:mg "int"=none)(c1:SX X "_law_pick" iq)(c2:∀m,n=m+1->SX X "_law_sum" (nN m)):Px X pk lu (pF n):=by
 rintro q ds xs d xs' ⟨ns,room,rfl,hr,hl,rfl,rfl,rfl⟩;have t:=h.at';haveI:=h.S5;have b1:=h.bt US;have b2:=h.bt Th;have WZ:ns.dropLast.length<=200:=by rw[bF];lia
 show UZ X q [.val<|.TL q,.val<|.int room,.val<|.int n,.un,.un,.un,.un] _ _ _ _;refine ef (lQ t 3<|gv t c1 (S3.am<|ac (aa t 0) ah) ⟨ns,rfl,rfl,rfl,rfl⟩) ?_;show UZ X q [.val<|.TL q,.val<|.int room,.val<|.int n,.val<|.int<|bV ns,.un,.un,.un] _ _ _ _;have x6:∀{p1 p2 p3:Pos}{j:Nat},Se X [.val<|.TL q,.val<|.int room,.val<|.int n,.val<|.int<|bV ns,.un,.un,.un] (.BinOp (.Name "_law_x" p1) .Mod (.Constant (.int 6) j p2) p3) (.int<|bV ns%6):=bO (aa t 3) af (by decide);have z3:∃m,gR n=zl n m/\∀r,n=r+1->m=kU r:=by cases n with|zero=>exact⟨_,rfl,λr e=>nomatch e⟩|succ r=>exact⟨_,rfl,λr' e=>by cases e;rfl⟩
 obtain⟨sm,ea,es⟩:=z3;rw[ea];unfold zl;by_cases h1:0<room/\bV ns%6<2;·rw[ax h1];exact EF<|qy (Sg.l<|Sg.eq (eQ (fg (aa t 1) af) λ_=>fZ x6 af)<|by rw[ap h1.2,ap (show(0:Int)<room by lia)];rfl)<|Sf.m<|aw<|bg<|Se.eq (aF<|ac (Ss.SF<|bE<|ac Sd ah)<|ac (SW.SF<|SW.eq (lE t<|UD.cons (k:=nk 1 0) (aF<|ac af<|ac af ah) af .nil) rfl) ah)<|by rw[show("x":Str)=S [120]by decide];rfl
 rw[av h1];refine ef (nX (Sg.l<|Sg.eq (eQ (fg (aa t 1) af) λ_=>fZ x6 af)<|by rw[<-K0,aK];lia) B2) ?_;by_cases h2:0<room/\bV ns%6<4;·rw[ax h2];exact EF<|qy (Sg.l<|Sg.eq (eQ (fg (aa t 1) af) λ_=>fZ x6 af)<|by rw[ap h2.2,ap (show(0:Int)<room by lia)];rfl)<|Sf.m<|aw<|bg<|Se.eq (aF<|ac (Ss.SF<|bE<|ac Sd ah)<|ac (SW.SF<|SW.eq (lE t<|UD.cons (k:=nk 0 1) (aF<|ac af<|ac af ah) af .nil) rfl) ah)<|by rw[show("y":Str)=S [121]by decide];rfl
 rw[av h2];refine ef (nX (Sg.l<|Sg.eq (eQ (fg (aa t 1) af) λ_=>fZ x6 af)<|by rw[<-K0,aK];lia) B2) ?_;by_cases h3:0<n/\bV ns%6=5
 ·rw[ax h3];obtain⟨m,rfl⟩:∃m,n=m+1:=⟨n-1,by lia⟩;rw[es m rfl];have ht:=(qH (n:=m) (ns:=ns.dropLast) (by lia) hr).2.2.2;generalize eo:kU m ns.dropLast room=o at ht;refine EF<|qy (Sg.l<|Sg.eq (eQ (fg (aa t 2) af) λ_=>fH x6 af)<|by rw[ap h3.2,ap (show(0:Int)<((m+1:Nat):Int)by lia)];rfl)<|ef (ρ1:=[.val<|.TL q,.val<|.int room,.val<|.int ((m+1:Nat):Int),.val<|.int<|bV ns,.val<|.lst<|az o.tk,.val<|.So o.kv,.un]) (tN t (gv (d:=oD o) (xs':=iL o.xs) t (c2 m rfl) (S3.am<|ac (aa t 0)<|ac (aa t 1)<|ac (Se.eq (jj (aa t 2) af) (show D.int (((m+1:Nat):Int)-1)=.int m by congr 1;lia)) ah) ⟨ns.dropLast,room,rfl,hr,WZ,rfl,by rw[eo],by rw[eo]⟩)<|gG t<|bN (bv t 4)<|bN (bv t 5) fx) ?_;refine Sf.m<|aw<|bg<|Se.eq (aF<|ac (Ss.SF<|fq (Ss.SF<|fq (Ss.SF<|bE<|ac Sd ah) (aa t 4) ?_) (Ss.SF<|bE<|ac Sd ah) ?_)<|ac (aa t 5) ah) ?_;·rw[bY];exact xD<|by simp;lia
  ·rw[aq,bY];exact xD<|by simp;lia
  ·unfold oD;rw[N5,N4];show D.tup [.lst<|[D.str<|S [40]]++az o.tk++[D.str<|S [41]],_]=D.tup [.lst<|az<|[40]::(o.tk++[[41]]),_];congr 2;show _=D.lst (D.str (S [40])::az (o.tk++[[41]]));rw[e8];rfl
 rw[av h3];refine ef (nX (Sg.l<|Sg.eq (eQ (fg (aa t 2) af) λ_=>fH x6 af)<|by rw[<-K0,aK];lia) B2) ?_;obtain⟨g1,g2⟩:=Ac n<|bV ns;have gi:mx n (bV ns)<1000:=by split at g2<;>lia
 have hx6:∀{p1 p2 p3:Pos}{j:Nat},Se X [.val<|.TL q,.val<|.int room,.val<|.int n,.val<|.int<|bV ns,.un,.un,.un] (.BinOp (.Name "_law_x" p1) .FloorDiv (.Constant (.int 6) j p2) p3) (.int<|bV ns / 6):=iR t (aa t 3) af (by decide);refine ef (SQ.m<|aX (d:=.int<|mx n<|bV ns) t 6<|aY (Ss.toQ<|bE<|ac (bO hx6 af<|by decide)<|ac (bO hx6 af<|by decide)<|ac (bO (j:=if 0<n then 1000 else 10) hx6 (aY (Ss.toQ<|bE<|ac af<|ac af ah) (gX t b2<|Lv (aa t 2) af) ?_)<|by split<;>decide)<|ac af ah) (bO (iR t (aa t 3) af<|by decide) af<|by decide) ?_) ?_
 ·by_cases z:0<n;·rw[ax z,ap (show(0:Int)<n by lia)];rfl
  ·rw[av z,ak (show¬(0:Int)<n by lia)];rfl
 ·exact Bm (xs:=[bV ns / 6%10,bV ns / 6%10,bV ns / 6%(if 0<n then 1000 else 10),0]) (by lia)<|by show _<4;lia
 generalize mx n (bV ns)=sz0 at g1 gi;obtain⟨z,rfl⟩:=gL g1;refine Sf.m<|aw<|bg<|Se.eq (aF<|ac (Ss.SF<|bE<|ac (AD t b1 (aa t 6)<|HA<|by lia) ah)<|ac (SW.SF<|SW.eq (lE t<|UD.cons (k:=nk 0 0) (aF<|ac af<|ac af ah) (aa t 6) .nil) rfl) ah) ?_;show D.tup [.lst [D.str<|toString ((z:Nat):Int)],_]=_;rw[Ht];rfl
def OM(x:Int):kS (([1,1,1,2,0,3]:bh).map D.int) (x%6)=some (.int<|tF x):=by
 rw[Bm (by lia)<|by show _<6;lia];unfold tF;have h:(x%6).toNat<6:=by lia
 generalize(x%6).toNat=n at h
 match n,h with
 |0,_=>rfl|1,_=>rfl
 |2,_=>rfl|3,_=>rfl
 |4,_=>rfl|5,_=>rfl
 |n+6,h=>lia
def OY(x:Int):kS (([0,0,0,0,1,1,2,3]:bh).map D.int) (x / 48%8)=some (.int<|Gm x):=by
 rw[Bm (by lia)<|by show _<8;lia];unfold Gm;have h:(x / 48%8).toNat<8:=by lia
 generalize(x / 48%8).toNat=n at h
 match n,h with
 |0,_=>rfl|1,_=>rfl
 |2,_=>rfl|3,_=>rfl
 |4,_=>rfl|5,_=>rfl
 |6,_=>rfl|7,_=>rfl
 |n+8,h=>lia
def QR{p:Nat}(h:p<=9):(toString ((p:Nat):Int):Str)=S [48+p]:=by
 have:∀p:Nat,p<10->(toString ((p:Nat):Int):Str)=S [48+p]:=by decide
 exact this p<|by lia
def QT{n:Nat}(h:n<=9):((n:Nat):Int).natAbs.log2<1920:=HA<|by lia
def yw(m:Nat):(List.replicate m [D.str "-"]).flatten=az (List.replicate m [45]):=by rw[show("-":Str)=S [45]by decide];induction m with|zero=>rfl|succ m ih=>rw[bc,cY,ih,bc];rfl
def oV{n:Nat}(h:DefX P w K mg base k l5 (ai jy) X)(hn:n=0\/n=1)(Sw:mg "range"=none)(WT:mg "min"=none)(UT:mg "max"=none)(US:mg "str"=none)(c1:SX X "_law_pick" iq)(c2:SX X "_law_atom" (pF n))(c3:EV.TY X "_law_product" gn)(c4:EV.TY X "_law_add" nP):Px X l5 jy (me n):=by
 rintro q ds xs d xs' ⟨ns,room,rfl,hr,hl,rfl,rfl,rfl⟩;have t:=h.at';haveI:=h.S5;have b1:=h.bt Sw;have b2:=h.bt WT;have b3:=h.bt UT;have b4:=h.bt US;have WZ:ns.dropLast.length<=200:=by rw[bF];lia
 show UZ X q [.val<|.TL q,.val<|.int room,.val<|.int n,.un,.un,.un,.un,.un,.un,.un] _ _ _ _;refine ef (lQ t 3<|gv t c1 (S3.am<|ac (aa t 0) ah) ⟨ns,rfl,rfl,rfl,rfl⟩) ?_;unfold kQ HZ;dsimp only;have hp3:=Lc<|bV ns;have hm3:=Li<|bV ns;have hpw:=OM<|bV ns;have hmn:=OY<|bV ns;generalize bV ns=x at hp3 hm3 hpw hmn;have Zw:room / max 1 (tF x)<=6:=ao (Nat.div_le_self _ _) hr;have hqd:(room:Int) / max 1 (tF x:Int)=((room / max 1 (tF x):Nat):Int):=by rw[Int.natCast_ediv];congr 1;lia
 have XB:tF x*(room / max 1 (tF x))<=room:=by
  by_cases h0:tF x=0;·rw[h0];lia
  ·rw[show max 1 (tF x)=tF x by lia];exact Nat.mul_div_le _ _
 generalize room / max 1 (tF x)=rq at Zw hqd XB;obtain⟨k1,k2,k3,u,us,eu,hu⟩:=IB hn ns.dropLast rq Zw;have ht:=(qH (ns:=ns.dropLast) hn Zw).1;refine ef (SQ.m<|aX (d:=.int<|tF x) t 4<|aY (Ss.toQ<|bE<|ac af<|ac af<|ac af<|ac af<|ac af<|ac af ah) (bO (aa t 3) af<|by decide) hpw) ?_;refine ef (ρ1:=[.val<|.TL q,.val<|.int room,.val<|.int n,.val<|.int x,.val<|.int<|tF x,.val<|.lst<|az (gR n ns.dropLast rq).tk,.val<|.So (gR n ns.dropLast rq).kv,.un,.un,.un]) (tN t (gv (d:=oD<|gR n ns.dropLast rq) t c2 (S3.am<|ac (aa t 0)<|ac (Se.eq (iR t (aa t 1) (lz t b3 af<|aa t 4)<|by lia)<|by rw[hqd])<|ac (aa t 2) ah) ⟨ns.dropLast,rq,rfl,Zw,WZ,rfl,rfl,rfl⟩)<|gG t<|bN (bv t 5)<|bN (bv t 6) fx) ?_;generalize gR n ns.dropLast rq=o at k1 k2 k3 eu ht;refine Sf.m ?_;have hpo:=G8 o x;have zCC:Ep o x*rq<=room:=ao (ge _ hpo) XB;have e40:decide (S u=("(":Str))=decide (o.tk.head?=some [40]):=by rw[eu,N5];exact bI.mpr ⟨λe=>by rw[fP e];rfl,λe=>by rw[bz e]⟩
 refine au (ρ':=[.val<|.TL q,.val<|.int room,.val<|.int n,.val<|.int x,.val<|.int<|Ep o x,.val<|.lst<|az o.tk,.val<|.So o.kv,.un,.un,.un]) ?_ ?_
 ·by_cases hh:o.tk.head?=some [40]
  ·refine dD (Sg.eq (cf t (aY (d:=.str<|S u) (Se.ql<|aa t 5) af<|dJ (j:=0)<|by rw[eu];rfl) Sd<|dA hu)<|by rw[e40,ap hh])<|aw<|SQ.eq (aX t 4<|AE t b2 af<|aa t 4) ?_;have e:min (2:Int) (tF x:Int)=((Ep o x:Nat):Int):=by unfold Ep;rw[ax hh];lia
   rw[e];rfl
  ·refine SQ.eq (cB (Sg.eq (cf t (aY (d:=.str<|S u) (Se.ql<|aa t 5) af<|dJ (j:=0)<|by rw[eu];rfl) Sd<|dA hu)<|by rw[e40,ak hh]) bQ) ?_;have e:Ep o x=tF x:=by unfold Ep;rw[av hh]
   rw[e]
 generalize Ep o x=p at hpo zCC;have hp9:p<=3:=by lia
 have kp:=λj=>oA k1 j;have pin:=λj=>tH k2 j;have okl:=wB k1 k2;have zBX:o.kv.length<=1000:=ao okl<|ao (eV (show rq+1<=7 by lia) (show rq+1<=7 by lia)) (by decide);refine au (aX (d:=.So [(nk 0 0,1)]) t 7<|SW.SF<|SW.eq (lE t<|UD.cons (k:=nk 0 0) (aF<|ac af<|ac af ah) af .nil) rfl) ?_;refine au (ρ':=[.val<|.TL q,.val<|.int room,.val<|.int n,.val<|.int x,.val<|.int p,.val<|.lst<|az o.tk,.val<|.So o.kv,.val<|.So<|hU o.kv p,.un,.un]) (ik t (fz t b1 (aa t 4) (by lia)<|by lia)<|SJ.SY (λj=>[.val<|.TL q,.val<|.int room,.val<|.int n,.val<|.int x,.val<|.int p,.val<|.lst<|az o.tk,.val<|.So o.kv,.val<|.So<|hU o.kv j,.un,.un]) (λj d e=>?_) rfl ?_) ?_
 ·obtain⟨hj,rfl⟩:=il e;have hj':j<p:=by lia
  have hjl:(hU o.kv j).length<=1000:=by have h1:=wB (kp j)<|pin j;have h2:j*rq<=2*6:=eV (by lia) Zw;exact ao h1<|ao (eV (show j*rq+1<=13 by lia) (show j*rq+1<=13 by lia))<|by decide
  exact⟨_,bv t 8,Sf.weak (aw<|aX (d:=.So<|hU o.kv<|j+1) t 7<|SW.SF<|pT t c3 (ac (aa t 7)<|ac (aa t 6) ah) ⟨hU o.kv j,o.kv,rfl,kp j,k1,hjl,zBX,Jg<|ao (pM k1 k3 j)<|ao (bM (by decide) (show j<=3 by lia))<|by decide,Jg<|ao k3<|by decide,rfl⟩)<|.keep<|.keep<|.keep<|.keep<|.keep<|.keep<|.keep<|.keep<|.forget<|.keep .nil⟩
 ·have e:(dY 0 (p:Int).toNat).length=p:=by simp[dY]
  rw[e]
 have WW:TM 10 (hU o.kv p):=λz hz=>let⟨i,k,e,a,b⟩:=pin p z hz;⟨i,k,e,by lia,by lia⟩;refine au (ρ':=[.val<|.TL q,.val<|.int room,.val<|.int n,.val<|.int x,.val<|.int p,.val<|.lst<|az (if p≠1\/x / 6%8=1 then o.tk++[[94],[48+p]]else o.tk),.val<|.So o.kv,.val<|.So<|hU o.kv p,.un,.un]) ?_ ?_
 ·have tv:(!decide ((p:Int)=1)||decide (x / 6%8=1))=decide (p≠1\/x / 6%8=1):=by
   by_cases z:p=1;·subst z;by_cases y:x / 6%8=1<;>simp[y]
   ·have:¬((p:Int)=1):=by lia
    simp[z,this]
  by_cases hc:p≠1\/x / 6%8=1;·rw[ax hc];refine dD (Sg.eq (fG (oS (aa t 4) af) λ_=>fH (bO (iR t (aa t 3) af<|by decide) af<|by decide) af)<|by rw[tv,ap hc])<|au (ρ':=[.val<|.TL q,.val<|.int room,.val<|.int n,.val<|.int x,.val<|.int p,.own<|az<|o.tk++[[94],[48+p]],.val<|.So o.kv,.val<|.So<|hU o.kv p,.un,.un]) (SQ.eq (iH t 5<|fq (aa t 5) (Ss.SF<|bE<|ac Sd<|ac (AD t b4 (aa t 4)<|QT<|by lia) ah)<|by rw[bY];exact xD<|by simp;lia) ?_)<|eE 5 rfl bQ;rw[QR (show p<=9 by lia),show("^":Str)=S [94]by decide,e8];rfl
  ·rw[av hc];exact cB (Sg.eq (fG (oS (aa t 4) af) λ_=>fH (bO (iR t (aa t 3) af<|by decide) af<|by decide) af)<|by rw[tv,ak hc]) bQ
 have htl:(if p≠1\/x / 6%8=1 then o.tk++[[94],[48+p]]else o.tk).length<=622:=by
  split;·simp;lia
  ·lia
 generalize(if p≠1\/x / 6%8=1 then o.tk++[[94],[48+p]]else o.tk)=T at htl;refine au (aX (d:=.int<|Gm x) t 9<|aY (Ss.toQ<|bE<|ac af<|ac af<|ac af<|ac af<|ac af<|ac af<|ac af<|ac af ah) (bO (iR t (aa t 3) af<|by decide) af<|by decide) hmn) ?_;generalize Gm x=mm at hm3;refine au (ρ':=[.val<|.TL q,.val<|.int room,.val<|.int n,.val<|.int x,.val<|.int p,.val<|.lst<|az T,.val<|.So o.kv,.val<|.So (if mm%2=1 then dy [] (hU o.kv p) (-1)else hU o.kv p),.un,.val<|.int mm]) ?_<|aw<|bg<|Se.eq (aF<|ac (Ss.SF<|fq (Ss.SF<|t4 (Ss.SF<|bE<|ac Sd ah) (aa t 9) (by lia) (by lia) ?_) (aa t 5) ?_)<|ac (aa t 7) ah) ?_
 ·by_cases hm:mm%2=1;·rw[ax hm];exact dD (Sg.eq (fH (bO (aa t 9) af<|by decide) af)<|by rw[bj];lia)<|aw<|aX (d:=.So<|dy [] (hU o.kv p) (-1)) t 7<|SW.SF<|pT t c4 (ac (SW.SF Ii)<|ac (aa t 7)<|ac (qU af) ah) ⟨[],hU o.kv p,-1,rfl,.nil,(λz hz=>nomatch hz),kp p,WW,.inr rfl,rfl⟩
  ·rw[av hm];exact cB (Sg.eq (fH (bO (aa t 9) af<|by decide) af)<|by rw[aK];lia) bQ
 ·rw[aO];exact xD<|by simp;lia
 ·rw[aO,yw,bY,bY];exact xD<|by simp;lia
 ·rw[aO,yw,<-e8];rfl
def J5{m:Nat}{kv:fA}(h:TM (m+1) kv)(hm:m<=9):TM 10 kv:=λz hz=>let⟨i,k,e,a,b⟩:=h z hz;⟨i,k,e,by lia,by lia⟩
def sP{n:Nat}(h:DefX P w K mg base k pe (ai li) X)(hn:n=0\/n=1)(c2:SX X "_law_factor" (me n))(c1:SX X "_law_pick" iq)(c3:EV.TY X "_law_product" gn):Px X pe li (pC n):=by
 rintro q ds xs d xs' ⟨ns,room,rfl,hr,hl,rfl,rfl,rfl⟩;have t:=h.at';haveI:=h.S5;have WZ:ns.dropLast.length<=200:=by rw[bF];lia
 show UZ X q [.val<|.TL q,.val<|.int room,.val<|.int n,.un,.un,.un,.un,.un] _ _ _ _;have Yt:bV ns%((room:Int)+1)=((Kf ns room:Nat):Int):=by unfold Kf;rw[gA<|ft _<|by lia]
 have hfl:=Ls ns room;unfold gc He;dsimp only;refine ef (lQ (d:=.int<|Kf ns room) t 3<|Uc.eq (sH (gv t c1 (S3.am<|ac (aa t 0) ah) ⟨ns,rfl,rfl,rfl,rfl⟩) (bK (aa t 1) af)<|by lia)<|by rw[Yt]) ?_;generalize Kf ns room=a at hfl;have ht:=(qH (ns:=ns.dropLast) (room:=a) hn<|by lia).2.1;have hx:=(CW (room:=a) hn ns.dropLast<|by lia).1;obtain⟨k1,k2,k3⟩:=B9 hn ns.dropLast a (by lia);refine ef (ρ1:=[.val<|.TL q,.val<|.int room,.val<|.int n,.val<|.int a,.val<|.lst<|az (kQ n ns.dropLast a).tk,.val<|.So (kQ n ns.dropLast a).kv,.un,.un]) (tN t (gv (d:=oD<|kQ n ns.dropLast a) t c2 (S3.am<|ac (aa t 0)<|ac (aa t 3)<|ac (aa t 2) ah) ⟨ns.dropLast,a,rfl,by lia,WZ,rfl,rfl,rfl⟩)<|gG t<|bN (bv t 4)<|bN (bv t 5) fx) ?_;generalize kQ n ns.dropLast a=o at ht hx k1 k2 k3;have Zy:o.xs.length<=200:=by lia
 have zCH:o.xs.dropLast.length<=200:=by rw[bF];lia
 by_cases hy:0<bV o.xs%3
 ·rw[ax hy];have ht2:=(qH (ns:=o.xs.dropLast) (room:=room-a) hn<|by lia).2.1;obtain⟨l1,l2,l3⟩:=B9 hn o.xs.dropLast (room-a) (by lia);refine ef (ρ1:=[.val<|.TL q,.val<|.int room,.val<|.int n,.val<|.int a,.val<|.lst<|az<|o.tk++[[42]]++(kQ n o.xs.dropLast<|room-a).tk,.val<|.So<|lw o.kv (kQ n o.xs.dropLast<|room-a).kv,.val<|.lst<|az (kQ n o.xs.dropLast<|room-a).tk,.val<|.So (kQ n o.xs.dropLast<|room-a).kv]) (MT (VW.eq (K3 (sH (gv t c1 (S3.am<|ac (aa t 0) ah) ⟨o.xs,rfl,rfl,rfl,rfl⟩) af<|by decide) af)<|ap hy)<|ef (ρ1:=[.val<|.TL q,.val<|.int room,.val<|.int n,.val<|.int a,.val<|.lst<|az o.tk,.val<|.So o.kv,.val<|.lst<|az (kQ n o.xs.dropLast<|room-a).tk,.val<|.So (kQ n o.xs.dropLast<|room-a).kv]) (tN t (gv (d:=oD<|kQ n o.xs.dropLast<|room-a) t c2 (S3.am<|ac (aa t 0)<|ac (Se.eq (jj (aa t 1)<|aa t 3) (show D.int ((room:Int)-(a:Int))=.int ((room-a:Nat):Int)by congr 1;lia))<|ac (aa t 2) ah) ⟨o.xs.dropLast,room-a,rfl,by lia,zCH,rfl,rfl,rfl⟩)<|gG t<|bN (bv t 6)<|bN (bv t 7) fx)<|Sf.m ?_)<|Sf.m<|aw<|bg<|aF<|ac (aa t 4)<|ac (aa t 5) ah;generalize kQ n o.xs.dropLast (room-a)=g at ht2 l1 l2 l3;refine au (ρ':=[.val<|.TL q,.val<|.int room,.val<|.int n,.val<|.int a,.own<|az<|o.tk++[[42]]++g.tk,.val<|.So o.kv,.val<|.lst<|az g.tk,.val<|.So g.kv]) (SQ.eq (iH t 4<|fq (Ss.SF<|fq (aa t 4) (Ss.SF<|bE<|ac Sd ah) ?_) (aa t 6) ?_) ?_)<|eE 4 rfl<|aw<|aX (d:=.So<|lw o.kv g.kv) t 5<|SW.SF<|pT t c3 (ac (aa t 5)<|ac (aa t 7) ah) ⟨o.kv,g.kv,rfl,k1,l1,FD k1<|J5 k2<|by lia,FD l1<|J5 l2<|by lia,Jg k3,Jg l3,rfl⟩;·rw[bY];exact xD<|by simp;lia
  ·rw[aq,bY,bY];exact xD<|by simp;lia
  ·rw[show("*":Str)=S [42]by decide,e8,e8];rfl
 ·rw[av hy];exact ef (MU (VW.eq (K3 (sH (gv t c1 (S3.am<|ac (aa t 0) ah) ⟨o.xs,rfl,rfl,rfl,rfl⟩) af<|by decide) af)<|ak hy) B2)<|Sf.m<|aw<|bg<|aF<|ac (aa t 4)<|ac (aa t 5) ah
def OC(ys:bh):kS (([.str "+",.str "-"]:aQ)) (bV ys%2)=some (.str<|S<|NY<|GQ ys)/\kS (([1,-1]:bh).map D.int) (bV ys%2)=some (.int (if GQ ys then 1 else-1)):=by
 unfold GQ;by_cases h:bV ys%2=0;·rw[ap h,h];exact⟨by rw[show("+":Str)=S [43]by decide];rfl,rfl⟩
 ·rw[ak h,show bV ys%2=1 by lia];exact⟨by rw[show("-":Str)=S [45]by decide];rfl,rfl⟩
def um{n:Nat}{room:Nat}(hn:n=0\/n=1)(hr:room<=6){o:Ot}(k1:TX o.kv)(k2:TM (room+1) o.kv)(hl:o.tk.length<=620)(hx:o.xs.length<=200):∀j,TX (iE (gc n) room o j).kv/\TM (room+1) (iE (gc n) room o j).kv/\(iE (gc n) room o j).tk.length<=620+621*j/\(iE (gc n) room o j).xs.length<=200
 |0=>⟨k1,k2,by show o.tk.length<=_;lia,hx⟩
 |j+1=>by
  obtain⟨a,b,c,d⟩:=um hn hr k1 k2 hl hx j;unfold iE rM;dsimp only;generalize iE (gc n) room o j=u at a b c d;have hd:u.xs.dropLast.length<=200:=by rw[bF];lia
  obtain⟨e1,e2⟩:=v9 hn u.xs.dropLast room hr;have e3:=(qH (ns:=u.xs.dropLast) hn hr).2.2.1;have e4:=(CW hn u.xs.dropLast hr).2;exact⟨(jt _ (λ_ _=>0) _ _ a e1.keys).1,mQ _ _ _ b e2,by simp;lia,by show(gc n u.xs.dropLast room).xs.length<=200;lia⟩
def uy{n:Nat}(h:DefX P w K mg base k rg (ai m3) X)(hn:n=0\/n=1)(Sw:mg "range"=none)(c2:SX X "_law_prod" (pC n))(c3:EV.TY X "_law_add" nP)(c1:SX X "_law_pick" iq):Px X rg m3 (nN n):=by
 rintro q ds xs d xs' ⟨ns,room,rfl,hr,hl,rfl,rfl,rfl⟩;have t:=h.at';haveI:=h.S5;have b1:=h.bt Sw;show UZ X q [.val<|.TL q,.val<|.int room,.val<|.int n,.un,.un,.un,.un,.un,.un] _ _ _ _;unfold kU GM;dsimp only;have ht:=(qH (ns:=ns) hn hr).2.2.1;have hx:=(CW hn ns hr).2;obtain⟨k1,k2⟩:=v9 hn ns room hr;refine ef (ρ1:=[.val<|.TL q,.val<|.int room,.val<|.int n,.val<|.lst<|az (gc n ns room).tk,.val<|.So (gc n ns room).kv,.un,.un,.un,.un]) (tN t (gv (d:=oD<|gc n ns room) t c2 (S3.am<|ac (aa t 0)<|ac (aa t 1)<|ac (aa t 2) ah) ⟨ns,room,rfl,hr,hl,rfl,rfl,rfl⟩)<|gG t<|bN (bv t 3)<|bN (bv t 4) fx) ?_;generalize gc n ns room=o at ht hx k1 k2;have ho:o.xs.dropLast.length<=200:=by rw[bF];lia
 have fc:=um hn hr (o:={o with xs:=o.xs.dropLast}) k1 k2 ht ho;have h3:(bV o.xs%3).toNat<=2:=by lia
 refine ef (ρ1:=[.val<|.TL q,.val<|.int room,.val<|.int n,.val<|.lst<|az (iE (gc n) room {o with xs:=o.xs.dropLast} (bV o.xs%3).toNat).tk,.val<|.So (iE (gc n) room {o with xs:=o.xs.dropLast} (bV o.xs%3).toNat).kv,.un,.un,.un,.un]) (MV t (DE t b1 (sH (gv t c1 (S3.am<|ac (aa t 0) ah) ⟨o.xs,rfl,rfl,rfl,rfl⟩) af<|by decide) (by lia)<|by lia)<|Uo.SY (λj=>[.val<|.TL q,.val<|.int room,.val<|.int n,.val<|.lst<|az (iE (gc n) room {o with xs:=o.xs.dropLast} j).tk,.val<|.So (iE (gc n) room {o with xs:=o.xs.dropLast} j).kv,.un,.un,.un,.un]) (λj=>iL (iE (gc n) room {o with xs:=o.xs.dropLast} j).xs) (λj d e=>?_) rfl rfl (by rw[show(dY 0 (bV o.xs%3).toNat).length=(bV o.xs%3).toNat by simp[dY]]) rfl) ?_
 ·obtain⟨hj,rfl⟩:=il e;have hj2:j<2:=by lia
  obtain⟨a,b,c,dd⟩:=fc j;rw[show iE (gc n) room {o with xs:=o.xs.dropLast} (j+1)=rM (gc n) room (iE (gc n) room {o with xs:=o.xs.dropLast} j)from rfl];generalize iE (gc n) room {o with xs:=o.xs.dropLast} j=u at a b c dd;unfold rM;dsimp only;have hd:u.xs.dropLast.length<=200:=by rw[bF];lia
  obtain⟨e1,e2⟩:=v9 hn u.xs.dropLast room hr;have e3:=(qH (ns:=u.xs.dropLast) hn hr).2.2.1;obtain⟨s1,s2⟩:=OC u.xs;refine⟨_,bv t 5,UZ.weak (ρ1:=[.val<|.TL q,.val<|.int room,.val<|.int n,.val<|.lst<|az<|u.tk++[NY<|GQ u.xs]++(gc n u.xs.dropLast room).tk,.val<|.So<|dy u.kv (gc n u.xs.dropLast room).kv (if GQ u.xs then 1 else-1),.val<|.int j,.val<|.int<|bV u.xs%2,.val<|.lst<|az (gc n u.xs.dropLast room).tk,.val<|.So (gc n u.xs.dropLast room).kv]) (ef (lQ t 6<|sH (gv t c1 (S3.am<|ac (aa t 0) ah) ⟨u.xs,rfl,rfl,rfl,rfl⟩) af<|by decide)<|ef (ρ1:=[.val<|.TL q,.val<|.int room,.val<|.int n,.val<|.lst<|az u.tk,.val<|.So u.kv,.val<|.int j,.val<|.int<|bV u.xs%2,.val<|.lst<|az (gc n u.xs.dropLast room).tk,.val<|.So (gc n u.xs.dropLast room).kv]) (tN t (gv (d:=oD<|gc n u.xs.dropLast room) t c2 (S3.am<|ac (aa t 0)<|ac (aa t 1)<|ac (aa t 2) ah) ⟨u.xs.dropLast,room,rfl,hr,hd,rfl,rfl,rfl⟩)<|gG t<|bN (bv t 7)<|bN (bv t 8) fx)<|Sf.m ?_)<|.keep<|.keep<|.keep<|.keep<|.keep<|.forget<|.forget<|.forget<|.forget .nil⟩;generalize gc n u.xs.dropLast room=g at e1 e2 e3;refine au (ρ':=[.val<|.TL q,.val<|.int room,.val<|.int n,.own<|az<|u.tk++[NY<|GQ u.xs]++g.tk,.val<|.So u.kv,.val<|.int j,.val<|.int<|bV u.xs%2,.val<|.lst<|az g.tk,.val<|.So g.kv]) (SQ.eq (iH t 3<|fq (Ss.SF<|fq (aa t 3) (Ss.SF<|bE<|ac (aY (Ss.toQ<|bE<|ac Sd<|ac Sd ah) (aa t 6) s1) ah) ?_) (aa t 7) ?_) ?_)<|eE 3 rfl<|aw<|aX (d:=.So<|dy u.kv g.kv (if GQ u.xs then 1 else-1)) t 4<|SW.SF<|pT t c3 (ac (aa t 4)<|ac (aa t 8)<|ac (aY (Ss.toQ<|bE<|ac af<|ac (qU af) ah) (aa t 6) s2) ah) ⟨u.kv,g.kv,_,rfl,a,J5 b<|by lia,e1,J5 e2<|by lia,by cases GQ u.xs<;>simp,rfl⟩;·rw[bY];exact xD<|by simp;lia
  ·rw[aq,bY,bY];exact xD<|by simp;lia
  ·rw[e8,e8];rfl
 ·rw[show(dY 0 (bV o.xs%3).toNat).length=(bV o.xs%3).toNat by simp[dY]];exact Sf.m<|aw<|bg<|aF<|ac (aa t 3)<|ac (aa t 4) ah
def wT(tk:TK):Nat:=(tk.map λu=>u.length+3).sum
def Gx(a b:TK):wT (a++b)=wT a+wT b:=by unfold wT;rw[aN,KS]
def D5(u:bZ)(b:TK):wT (u::b)=u.length+3+wT b:=rfl
def L0(tk:TK):3*tk.length<=wT tk:=by induction tk with|nil=>simp[wT]|cons u tk ih=>rw[D5,bp];lia
def O0(xs:bh):bZ:=([[32],[],[],[32,32]]:TK).getD (xs.getD 0 0%4).toNat []
def Iz(xs:bh)(k:Nat):bZ:=([[],[32],[],[32,32,32]]:TK).getD (xs.getD (k%18) 0 / 4%4).toNat []
def PX(xs:bh):bZ:=([[],[32],[],[]]:TK).getD (xs.getD 0 0 / 16%4).toNat []
def rn(u:bZ):Bool:=lo<|u.headD 0
def CP(tk:TK)(xs:bh)(k:Nat):bZ:=if Iz xs k=[]/\rn (tk.getD k [])=true/\rn (tk.getD (k-1) [])=true then [32]else Iz xs k
def Ds(tk:TK)(xs:bh):Nat->bZ|0=>O0 xs|k+1=>Ds tk xs k++(if 0<k then CP tk xs k else [])++tk.getD k []
def wC(tk:TK)(xs:bh):bZ:=Ds tk xs tk.length++PX xs
def Hf{n:Nat}{α:Type}(a b c d z:α)(h:n<4)(P:α->Prop)(ha:P a)(hb:P b)(hc:P c)(hd:P d):P (([a,b,c,d]:List α).getD n z):=by
 match n,h with
 |0,_=>exact ha|1,_=>exact hb
 |2,_=>exact hc|3,_=>exact hd
 |n+4,h=>lia
def Q6{i:Int}(a b c d:Str)(a' b' c' d':bZ)(ea:a=S a')(eb:b=S b')(ec:c=S c')(ed:d=S d')(h0:0<=i)(h1:i<4):kS ([.str a,.str b,.str c,.str d]:aQ) i=some (.str<|S<|([a',b',c',d']:TK).getD i.toNat []):=by
 obtain⟨n,rfl⟩:=gL h0;have:n<4:=by lia
 rw[aO]
 match n,this with
 |0,_=>rw[ea];rfl|1,_=>rw[eb];rfl
 |2,_=>rw[ec];rfl|3,_=>rw[ed];rfl
 |n+4,h=>lia
def Bk(u:bZ):Prop:=(∀c∈u,c=32)/\u.length<=3
def T9:Bk []/\Bk [32]/\Bk [32,32]/\Bk [32,32,32]:=⟨⟨by decide,by decide⟩,⟨by decide,by decide⟩,⟨by decide,by decide⟩,⟨by decide,by decide⟩⟩
def HC(xs:bh):Bk (O0 xs)/\(O0 xs).length<=2:=Hf _ _ _ _ _ (by lia) (λu=>Bk u/\u.length<=2) ⟨T9.2.1,by decide⟩ ⟨T9.1,by decide⟩ ⟨T9.1,by decide⟩ ⟨T9.2.2.1,by decide⟩
def LI(xs:bh)(k:Nat):Bk (Iz xs k):=Hf _ _ _ _ _ (by lia) Bk T9.1 T9.2.1 T9.1 T9.2.2.2
def D9(xs:bh):Bk (PX xs)/\(PX xs).length<=1:=Hf _ _ _ _ _ (by lia) (λu=>Bk u/\u.length<=1) ⟨T9.1,by decide⟩ ⟨T9.2.1,by decide⟩ ⟨T9.1,by decide⟩ ⟨T9.1,by decide⟩
def Ee(tk:TK)(xs:bh)(k:Nat):Bk (CP tk xs k):=by unfold CP;split;exact T9.2.1;exact LI xs k
def K4(h:og u):∃c cs,u=c::cs/\(!(Builtin.Str.occurrences SG (S [c]) 0 SG.length 1).isEmpty)=rn u:=by cases u with|nil=>exact absurd rfl h.1|cons c cs=>exact⟨c,cs,rfl,wn c (h.2 c<|by simp).1⟩
def z6{tk:TK}{j:Nat}(h:j<tk.length):wT (tk.take<|j+1)=wT (tk.take j)+(tk.getD j []).length+3:=by rw[jr,List.getElem?_eq_getElem h,Gx,List.getD_eq_getElem?_getD,List.getElem?_eq_getElem h];show _+(tk[j].length+3+0)=_+tk[j].length+3;lia
def Ea(tk:TK)(j:Nat):wT (tk.take j)<=wT tk:=by have:=Gx (tk.take j)<|tk.drop j;rw[mO]at this;lia
def Ay(tk:TK)(xs:bh):∀j,j<=tk.length->(Ds tk xs j).length<=2+wT (tk.take j)
 |0,_=>by rw[List.take_zero];exact(HC xs).2
 |j+1,h=>by
  have a:=Ay tk xs j (by lia);have b:=(Ee tk xs j).2;rw[z6<|by lia];unfold Ds;rw[aq,aq];split;·lia
  ·simp;lia
def Lm{tk:TK}(hq:∀u∈tk,og u)(xs:bh):∀j,j<=tk.length->∀c∈Ds tk xs j,c<128/\c≠33
 |0,_,c,hc=>by rw[(HC xs).1.1 c hc];decide
 |j+1,h,c,hc=>by
  unfold Ds at hc;rcases List.mem_append.mp hc with hc |hc
  ·rcases List.mem_append.mp hc with hc |hc;·exact Lm hq xs j (by lia) c hc
   ·split at hc;·rw[(Ee tk xs j).1 c hc];decide
    ·cases hc
  ·rw[List.getD_eq_getElem?_getD,List.getElem?_eq_getElem<|by lia]at hc;exact(hq _<|jM _).2 c hc
def J8{tk:TK}(hq:∀u∈tk,og u)(xs:bh):∀c∈wC tk xs,c<128/\c≠33:=λc hc=>by
 rcases List.mem_append.mp hc with hc |hc;·exact Lm hq xs tk.length (ar _) c hc
 ·rw[(D9 xs).1.1 c hc];decide
def HK(tk:TK)(xs:bh):(wC tk xs).length<=wT tk+3:=by have a:=Ay tk xs tk.length<|ar _;have b:=(D9 xs).2;rw[bW]at a;unfold wC;rw[aq];lia
def nb(cs:bZ):Nat:=(cs.filter λc=>decide<|c≠32).length
def qP(a b:bZ):nb (a++b)=nb a+nb b:=by unfold nb;rw[List.filter_append,aq]
def OW(a:bZ):nb a<=a.length:=yi _ _
def Hw(h:Bk u):nb u=0:=by unfold nb;rw[uX,xp];exactλc hc=>by rw[h.1 c hc];decide
def KC{tk:TK}{j:Nat}(h:j<tk.length):cT (tk.take<|j+1)=cT (tk.take j)+(tk.getD j []).length:=by rw[jr,List.getElem?_eq_getElem h,fJ,List.getD_eq_getElem?_getD,List.getElem?_eq_getElem h];rfl
def Ll(tk:TK)(xs:bh):∀j,j<=tk.length->nb (Ds tk xs j)<=cT (tk.take j)
 |0,_=>by show nb (O0 xs)<=_;rw[Hw (HC xs).1];exact bR _
 |j+1,h=>by
  have a:=Ll tk xs j (by lia);have b:=OW<|tk.getD j [];rw[KC<|by lia];unfold Ds;rw[qP,qP];have:nb (if 0<j then CP tk xs j else [])=0:=by
   split;·exact Hw<|Ee tk xs j
   ·rfl
  lia
def J7(tk:TK)(xs:bh):nb (wC tk xs)<=cT tk:=by have a:=Ll tk xs tk.length<|ar _;rw[bW]at a;unfold wC;rw[qP,Hw (D9 xs).1];lia
def Oc(tk:TK):wT tk=cT tk+3*tk.length:=by induction tk with|nil=>rfl|cons u b ih=>rw[D5,sO,ih,bp];lia
def l9(ds:aQ)(d:D):Prop:=∃(tk:TK)(xs:bh),ds=[.lst<|az tk,eU xs]/\xs.length=18/\(∀u∈tk,og u)/\wT tk<=2000/\d=.str (S<|wC tk xs)
def uN:∀ds d,l9 ds d->ds.length=2:=by rintro _ _ ⟨_,_,rfl,_⟩;rfl
def yd(h:DefX P w K mg base k lZ (ai jx) X)(Sw:mg "range"=none)(Sm:mg "len"=none):Go X lZ jx l9:=by
 rintro ds d ⟨tk,xs,rfl,hl,hq,hw,rfl⟩;have t:=h.at';haveI:=h.S5;have b1:=h.bt Sw;have b2:=h.bt Sm;have htl:tk.length<=666:=by have:=L0 tk;lia
 have z0:("":Str)=S []:=by decide
 have z1:(" ":Str)=S [32]:=by decide
 have z2:("  ":Str)=S [32,32]:=by decide
 have z3:("   ":Str)=S [32,32,32]:=by decide
 have hv:∀n:Nat,n<18->kS (xs.map D.int) (n:Int)=some (.int<|xs.getD n 0):=λn hn=>xg (by lia);show Sf X [.val<|.lst<|az tk,.val<|eU xs,.un,.un,.un,.un] _ _;refine au (aX (d:=.str SG) t 2 Sd)<|au (aX (d:=.str<|S<|O0 xs) t 3<|aY (Ss.toQ<|bE<|ac Sd<|ac Sd<|ac Sd<|ac Sd ah) (bO (aY (Se.ql<|aa t 1) af<|hv 0<|by lia) af<|by decide)<|Q6 _ _ _ _ _ _ _ _ z1 z0 z0 z2 (by lia)<|by lia) ?_;refine au (ρ':=[.val<|.lst<|az tk,.val<|eU xs,.val<|.str SG,.val<|.str<|S<|Ds tk xs tk.length,.un,.un]) (ik t (fz t b1 (eC t b2<|Se.ql<|aa t 0) (by rw[bY];lia)<|by rw[bY];lia)<|SJ.SY (λj=>[.val<|.lst<|az tk,.val<|eU xs,.val<|.str SG,.val<|.str<|S<|Ds tk xs j,.un,.un]) (λj d e=>?_) rfl ?_)<|aw<|bg<|Se.eq (pR (z:=S<|Ds tk xs tk.length) (w:=S<|PX xs) (aa t 3) (aY (Ss.toQ<|bE<|ac Sd<|ac Sd<|ac Sd<|ac Sd ah) (bO (iR t (aY (Se.ql<|aa t 1) af<|hv 0<|by lia) af<|by decide) af<|by decide)<|Q6 _ _ _ _ _ _ _ _ z0 z1 z0 z0 (by lia)<|by lia) ?_)<|by rw[uz];rfl
 ·obtain⟨hj,rfl⟩:=il e;rw[aO,bY]at hj;have hg:tk.getD j []=tk[j]:=by rw[List.getD_eq_getElem?_getD,List.getElem?_eq_getElem hj];rfl
  have hQ:=hq tk[j]<|jM hj;have Zs:∀i:Nat,(hi:i<tk.length)->kS (az tk) (i:Int)=some (.str<|S tk[i]):=λi hi=>dJ (by unfold az;rw[List.getElem?_map,List.getElem?_eq_getElem hi];rfl);have hjl:=Ay tk xs j (by lia);have hjw:=Ea tk<|j+1;rw[z6 hj]at hjw;have sp3:=(Ee tk xs j).2;refine⟨_,bv t 4,Sf.weak (ρ1:=[.val<|.lst<|az tk,.val<|eU xs,.val<|.str SG,.val<|.str<|S<|Ds tk xs<|j+1,.val<|.int j,.un]) (au (ρ':=[.val<|.lst<|az tk,.val<|eU xs,.val<|.str SG,.val<|.str<|S<|Ds tk xs j++(if 0<j then CP tk xs j else []),.val<|.int j,.un]) ?_<|aw<|SQ.eq (aX t 3<|pR (w:=S tk[j]) (aa t 3) (aY (Se.ql<|aa t 0) (aa t 4)<|Zs j hj) ?_) ?_)<|.keep<|.keep<|.keep<|.keep<|.forget<|.keep .nil⟩
  ·by_cases h0:0<j
   ·rw[ax h0];have ZH:j-1<tk.length:=by lia
    have hg1:tk.getD (j-1) []=tk[j-1]:=by rw[List.getD_eq_getElem?_getD,List.getElem?_eq_getElem ZH];rfl
    have hQ1:=hq tk[j-1]<|jM ZH;obtain⟨c,cs,ec,oc⟩:=K4 hQ;obtain⟨c1,cs1,ec1,oc1⟩:=K4 hQ1;have hl1:(S tk[j]).length<=sizeLine:=by rw[cq];rw[hg]at hjw;exact Jq<|by lia
    have hl2:(S tk[j-1]).length<=sizeLine:=by rw[cq];have:=Ea tk<|j-1+1;rw[z6 ZH,hg1]at this;exact Jq<|by lia
    have zCM:(j:Int)%18=((j%18:Nat):Int):=by lia
    have hbk:PyData.strOk (S<|Iz xs j)=true:=dA λc hc=>by rw[(LI xs j).1 c hc];decide
    have e0:decide (S (Iz xs j)=("":Str))=decide (Iz xs j=[]):=bI.mpr ⟨λe=>fP<|e.trans z0,λe=>by rw[e,z0]⟩;have ejm:(j:Int)-1=((j-1:Nat):Int):=by lia
    refine dD (Sg.eq (fg (aa t 4) af)<|by rw[bj];lia)<|Sf.weak (ρ1:=[.val<|.lst<|az tk,.val<|eU xs,.val<|.str SG,.val<|.str<|S<|Ds tk xs j++CP tk xs j,.val<|.int j,.val<|.str<|S<|CP tk xs j]) (au (aX (d:=.str<|S<|Iz xs j) t 5<|aY (Ss.toQ<|bE<|ac Sd<|ac Sd<|ac Sd<|ac Sd ah) (bO (iR t (aY (Se.ql<|aa t 1) (Se.eq (bO (aa t 4) (eC t b2<|Se.ql<|aa t 1)<|by rw[aj,hl];decide)<|by rw[aj,hl];exact aV D.int zCM)<|hv (j%18)<|by lia) af<|by decide) af<|by decide)<|Q6 _ _ _ _ _ _ _ _ z0 z1 z0 z3 (by lia)<|by lia)<|au (ρ':=[.val<|.lst<|az tk,.val<|eU xs,.val<|.str SG,.val<|.str<|S<|Ds tk xs j,.val<|.int j,.val<|.str<|S<|CP tk xs j]) ?_<|aw<|SQ.eq (aX t 3<|pR (aa t 3) (aa t 5)<|by rw[cq,cq];exact Jq<|by lia)<|by rw[uz];rfl)<|.keep<|.keep<|.keep<|.keep<|.keep<|.forget .nil;have Y3:(decide (Iz xs j=[])&&(rn tk[j]&&rn tk[j-1]))=decide (Iz xs j=[]/\rn (tk.getD j [])=true/\rn (tk.getD (j-1) [])=true):=by rw[hg,hg1];by_cases y:Iz xs j=[]<;>cases rn tk[j]<;>cases rn tk[j-1]<;>simp[y]
    unfold CP;by_cases hc:Iz xs j=[]/\rn (tk.getD j [])=true/\rn (tk.getD (j-1) [])=true;·rw[ax hc];exact dD (Sg.eq (EU (Sg.eq (cf t (aa t 5) Sd hbk) e0) (λ_=>lS (c9 (c:=c) (aY (Se.ql<|aa t 0) (aa t 4)<|Zs j hj) af hl1<|by rw[eD,ec];exact dJ (j:=0) rfl) (aa t 2) oc) λ_ _=>lS (c9 (c:=c1) (aY (Se.ql<|aa t 0) (Se.eq (jj (aa t 4) af)<|aV D.int ejm)<|Zs (j-1) ZH) af hl2<|by rw[eD,ec1];exact dJ (j:=0) rfl) (aa t 2) oc1)<|by rw[Y3,ap hc])<|aw<|SQ.eq (aX t 5 Sd)<|by rw[z1];rfl
    ·rw[av hc];exact cB (Sg.eq (EU (Sg.eq (cf t (aa t 5) Sd hbk) e0) (λ_=>lS (c9 (c:=c) (aY (Se.ql<|aa t 0) (aa t 4)<|Zs j hj) af hl1<|by rw[eD,ec];exact dJ (j:=0) rfl) (aa t 2) oc) λ_ _=>lS (c9 (c:=c1) (aY (Se.ql<|aa t 0) (Se.eq (jj (aa t 4) af)<|aV D.int ejm)<|Zs (j-1) ZH) af hl2<|by rw[eD,ec1];exact dJ (j:=0) rfl) (aa t 2) oc1)<|by rw[Y3,ak hc]) bQ
   ·rw[av h0,bC];exact cB (Sg.eq (fg (aa t 4) af)<|by rw[aK];lia) bQ
  ·rw[cq,cq,aq];rw[hg]at hjw;have:(if 0<j then CP tk xs j else []).length<=3:=by
    split;·exact sp3
    ·simp
   exact Jq<|by lia
  ·rw[uz,<-hg];rfl
 ·have e:(dY 0 ((az tk).length:Int).toNat).length=tk.length:=by rw[bY];simp[dY]
  rw[e]
 ·have a:=Ay tk xs tk.length<|ar _;have b:=(D9 xs).2;rw[bW]at a;rw[cq,cq];exact Jq<|by lia
def Ca{lo hi:Option Expr}{l h:Option Int}(ha:Se X ρ a (.str z))(hl:EV.XW X ρ lo l)(hh:EV.XW X ρ hi h)(hz:z.length<=sizeLine):Se X ρ (.Subscript a (.Slice lo hi none p2) pos) (.str<|Txt.slice z l h):=.of (v7 GO aR JM JM) λB F H σ Q k q=>ha B F H σ _ k λv F1 H1 x1 r1=>hl B F1 H1 σ _ (k.ext x1) λF2 H2 x2=>hh B F2 H2 σ _ (k.ext<|x1.t x2) λF3 H3 x3=>by cases r1;exact⟨z,rfl,hz,q _ F3 H3 (x1.t<|x2.t x3)<|.str _⟩
def OB(u:Option Int)(n:Nat):Builtin.Str.strSliceIndices none u 1 n=Builtin.Str.strSliceIndices (some 0) u 1 n:=by unfold Builtin.Str.strSliceIndices;simp only[show(1:Int)>0 by decide,xn,show¬((0:Int)<0)by decide,Gc];rw[show max 0 (min (0:Int) (n:Int))=0 by lia]
def OA(l:Option Int)(n:Nat):Builtin.Str.strSliceIndices l none 1 n=Builtin.Str.strSliceIndices l (some (n:Int)) 1 n:=by unfold Builtin.Str.strSliceIndices;simp only[show(1:Int)>0 by decide,xn,show¬((n:Int)<0)by lia,Gc];rw[show max 0 (min (n:Int) (n:Int))=n by lia]
def NL{n:Nat}:Txt.slice (S cs) none (some (n:Int))=S (cs.take n):=by
 have e:Txt.slice (S cs) none (some (n:Int))=Txt.slice (S cs) (some ((0:Nat):Int)) (some (n:Int)):=by unfold Txt.slice;rw[OB];rfl
 rw[e,sL (bR _)<|bR _,eD,NU,Gf];rfl
def IG{cs:bZ}{n:Nat}(h:n<=cs.length):Txt.slice (S cs) (some (n:Int)) none=S (cs.drop n):=by
 have e:Txt.slice (S cs) (some (n:Int)) none=Txt.slice (S cs) (some (n:Int)) (some ((S cs).length:Int)):=by unfold Txt.slice;rw[OA]
 rw[e,sL (by rw[cq];exact h)<|by rw[cq];exact h,eD,cq,ie<|by rw[bP];lia];rfl
def smA:TK:=[[55],[48],[48,55],[49,50,51,52,53,54,55,56,57,48,49,50,51],[120],[121],[122],[120,121],[50,120],[43],[45],[42],[94],[40],[41],[42,42],[47],[46]]
def smB:TK:=[[88],[110,111,116],[60],[91],[93],[95],[120,50],[49,48],[44],[61]]
def WO:TK:=smA++smB
def Mg:([.str "7",.str "0",.str "07",.str "1234567890123",.str "x",.str "y",.str "z",.str "xy",.str "2x",.str "+",.str "-",.str "*",.str "^",.str "(",.str ")",.str "**",.str "/",.str "."]:aQ)=az smA:=by
 have e:(["7","0","07","1234567890123","x","y","z","xy","2x","+","-","*","^","(",")","**","/","."]:cH)=smA.map S:=by decide
 show(["7","0","07","1234567890123","x","y","z","xy","2x","+","-","*","^","(",")","**","/","."]:cH).map D.str=_;rw[e,cj];rfl
def Mf:([.str "X",.str "not",.str "<",.str "[",.str "]",.str "_",.str "x2",.str "10",.str ",",.str "="]:aQ)=az smB:=by
 have e:(["X","not","<","[","]","_","x2","10",",","="]:cH)=smB.map S:=by decide
 show(["X","not","<","[","]","_","x2","10",",","="]:cH).map D.str=_;rw[e,cj];rfl
def Me:∀u∈WO,og u/\u.length<=13:=by
 have:∀u∈WO,(u≠[]/\∀c∈u,c<128/\c≠33)/\u.length<=13:=by decide
 exact this
def Ef(tk:TK)(a:Nat)(m:bZ)(w:Int):TK:=if w=0 then tk.take a++tk.drop (a+1)else if w=1 then tk.take a++[m]++tk.drop a else tk.take a++[m]++tk.drop (a+1)
def aS(tk:TK)(x:Int):Nat:=(x%((tk.length:Int)+1)).toNat
def mS(x:Int):bZ:=WO.getD (x%28).toNat []
def Gk(tk:TK)(xs:bh):Nat->TK|0=>tk|k+1=>Ef (Gk tk xs k) (aS (Gk tk xs k)<|xs.getD (1+3*k) 0) (mS<|xs.getD (2+3*k) 0)<|xs.getD (3+3*k) 0%3
def Md(tk:TK)(xs:bh):TK:=Gk tk xs<|1+(xs.getD 0 0%3).toNat
def MW(x:Int):mS x∈WO:=by
 have h:(x%28).toNat<WO.length:=by show _<28;lia
 unfold mS;rw[List.getD_eq_getElem?_getD,List.getElem?_eq_getElem h];exact jM h
def LF(tk:TK)(a b:Nat)(h:a<=b):cT (tk.take a)+cT (tk.drop b)<=cT tk:=by
 have e1:cT (tk.take a)+cT (tk.drop a)=cT tk:=by rw[<-fJ,mO]
 have e2:cT ((tk.drop a).take<|b-a)+cT ((tk.drop a).drop<|b-a)=cT (tk.drop a):=by rw[<-fJ,mO]
 rw[List.drop_drop,show a+(b-a)=b by lia]at e2;lia
def Mb{tk:TK}{a:Nat}{w:Int}(h:∀u∈tk,og u)(hm:og m)(hl:m.length<=13):(∀u∈Ef tk a m w,og u)/\cT (Ef tk a m w)<=cT tk+13:=by
 have t1:∀u∈tk.take a,og u:=λu hu=>h u<|cg hu;have t2:∀b,∀u∈tk.drop b,og u:=λb u hu=>h u<|Bt hu;have c1:=LF tk a (a+1) (by lia);have c2:=LF tk a a<|ar _;have cm:cT [m]=m.length:=rfl;unfold Ef;split;·exact⟨dI t1<|t2 _,by rw[fJ];lia⟩
 ·split;·exact⟨dI (dI t1<|e9 hm)<|t2 _,by rw[fJ,fJ];lia⟩
  ·exact⟨dI (dI t1<|e9 hm)<|t2 _,by rw[fJ,fJ];lia⟩
def C8{tk:TK}(h:∀u∈tk,og u)(xs:bh):∀k,(∀u∈Gk tk xs k,og u)/\cT (Gk tk xs k)<=cT tk+13*k|0=>⟨h,ar _⟩|k+1=>by obtain⟨h1,h2⟩:=C8 h xs k;have m:=Me _<|MW<|xs.getD (2+3*k) 0;have:=Mb (a:=aS (Gk tk xs k)<|xs.getD (1+3*k) 0) (w:=xs.getD (3+3*k) 0%3) h1 m.1 m.2;exact⟨this.1,ao this.2<|by lia⟩
def Mc{tk:TK}(h:∀u∈tk,og u)(xs:bh):(∀u∈Md tk xs,og u)/\cT (Md tk xs)<=cT tk+39:=by have:=C8 h xs<|1+(xs.getD 0 0%3).toNat;exact⟨this.1,ao this.2<|by lia⟩
def l8(ds:aQ)(d:D):Prop:=∃(tk:TK)(xs:bh),ds=[.lst<|az tk,eU xs]/\xs.length=10/\(∀u∈tk,og u)/\cT tk<=620/\d=.lst (az<|Md tk xs)
def uM:∀ds d,l8 ds d->ds.length=2:=by rintro _ _ ⟨_,_,rfl,_⟩;rfl
def yc(h:DefX P w K mg base k lY (ai jw) X)(Sw:mg "range"=none)(Sm:mg "len"=none)(UJ:mg "list"=none):Go X lY jw l8:=by
 rintro ds d ⟨tk,xs,rfl,hl,hq,hw,rfl⟩;have t:=h.at';haveI:=h.S5;have b1:=h.bt Sw;have b2:=h.bt Sm;have b3:=h.bt UJ;have hv:∀n:Nat,n<10->kS (xs.map D.int) (n:Int)=some (.int<|xs.getD n 0):=λn hn=>xg (by lia);show Sf X [.val<|.lst<|az tk,.val<|eU xs,.un,.un,.un,.un,.un,.un] _ _;refine au (aX (d:=.lst<|az smA) t 2<|Se.eq (Ss.SF<|bE<|ac Sd<|ac Sd<|ac Sd<|ac Sd<|ac Sd<|ac Sd<|ac Sd<|ac Sd<|ac Sd<|ac Sd<|ac Sd<|ac Sd<|ac Sd<|ac Sd<|ac Sd<|ac Sd<|ac Sd<|ac Sd ah)<|aV D.lst Mg) ?_;refine au (aX (d:=.lst<|az WO) t 2<|Se.eq (Ss.SF<|fq (aa t 2) (Se.eq (Ss.SF<|bE<|ac Sd<|ac Sd<|ac Sd<|ac Sd<|ac Sd<|ac Sd<|ac Sd<|ac Sd<|ac Sd<|ac Sd ah)<|aV D.lst Mf)<|by decide)<|by rw[<-e8];rfl) ?_;refine au (iH t 3<|EX t b3<|Se.ql<|aa t 0)<|eE 3 rfl ?_;have er:(1:Int)+xs.getD 0 0%3=((1+(xs.getD 0 0%3).toNat:Nat):Int):=by lia
 refine au (ρ':=[.val<|.lst<|az tk,.val<|eU xs,.val<|.lst<|az WO,.val<|.lst<|az<|Md tk xs,.un,.un,.un,.un]) (ik t (fz t b1 (Se.eq (bK af<|bO (aY (Se.ql<|aa t 1) af<|hv 0<|by lia) af<|by decide)<|aV D.int er) (by lia)<|by lia)<|SJ.SY (λj=>[.val<|.lst<|az tk,.val<|eU xs,.val<|.lst<|az WO,.val<|.lst<|az<|Gk tk xs j,.un,.un,.un,.un]) (λj x e=>?_) rfl ?_)<|aw<|bg<|aa t 3
 ·obtain⟨hj,rfl⟩:=il e;have hj3:j<3:=by lia
  obtain⟨h1,h2⟩:=C8 hq xs j;have hfl:=t6 h1;rw[show Gk tk xs (j+1)=Ef (Gk tk xs j) (aS (Gk tk xs j)<|xs.getD (1+3*j) 0) (mS<|xs.getD (2+3*j) 0) (xs.getD (3+3*j) 0%3)from rfl];generalize Gk tk xs j=f at h1 h2 hfl;have ix:∀n:Nat,n<4->(n:Int)+3*(j:Int)=((n+3*j:Nat):Int):=λn hn=>by lia
  have ea:xs.getD (1+3*j) 0%((f.length:Int)+1)=((aS f (xs.getD (1+3*j) 0):Nat):Int):=by unfold aS;rw[gA<|ft _<|by lia]
  have al:aS f (xs.getD (1+3*j) 0)<=f.length:=by have:=rD (xs.getD (1+3*j) 0) (show(0:Int)<(f.length:Int)+1 by lia);lia
  have em:kS (az WO) (xs.getD (2+3*j) 0%28)=some (.str<|S<|mS<|xs.getD (2+3*j) 0):=by
   have h28:(xs.getD (2+3*j) 0%28).toNat<WO.length:=by show _<28;lia
   have:=rL h28;rw[gA<|ft _<|by decide]at this;exact this
  generalize aS f (xs.getD (1+3*j) 0)=a at ea al;generalize mS (xs.getD (2+3*j) 0)=m at em;have e1:(a:Int)+1=((a+1:Nat):Int):=by lia
  have c1:EV.cutD (az f) none (some (a:Int))=az (f.take a):=by rw[O9<|by rw[bY];exact al];unfold az;rw[PF]
  have c2:EV.cutD (az f) (some (a:Int)) none=az (f.drop a):=by rw[AQ];unfold az;rw[uk]
  have c3:EV.cutD (az f) (some<|(a:Int)+1) none=az (f.drop<|a+1):=by rw[e1,AQ];unfold az;rw[uk]
  have l1:(f.take a).length<=700:=by rw[cQ];lia
  have l2:(f.drop a).length<=700:=by rw[bP];lia
  have l3:(f.drop<|a+1).length<=700:=by rw[bP];lia
  generalize YI:xs.getD (3+3*j) 0%3=wy;refine⟨_,bv t 4,Sf.weak (ρ1:=[.val<|.lst<|az tk,.val<|eU xs,.val<|.lst<|az WO,.val<|.lst<|az<|Ef f a m wy,.val<|.int j,.val<|.int a,.val<|.str<|S m,.val<|.int wy]) (au (aX (d:=.int a) t 5<|Se.eq (bO (aY (Se.ql<|aa t 1) (Se.eq (bK af<|gj af (aa t 4)<|iO (by decide)<|by decide)<|aV D.int<|ix 1<|by decide)<|hv (1+3*j)<|by lia) (bK (eC t b2<|Se.ql<|aa t 3) af)<|by rw[bY];lia)<|by rw[bY,ea])<|au (aX (d:=.str<|S m) t 6<|aY (Se.ql<|aa t 2) (bO (aY (Se.ql<|aa t 1) (Se.eq (bK af<|gj af (aa t 4)<|iO (by decide)<|by decide)<|aV D.int<|ix 2<|by decide)<|hv (2+3*j)<|by lia) (eC t b2<|Se.ql<|aa t 2)<|by decide) em)<|au (aX (d:=.int wy) t 7<|Se.eq (bO (aY (Se.ql<|aa t 1) (Se.eq (bK af<|gj af (aa t 4)<|iO (by decide)<|by decide)<|aV D.int<|ix 3<|by decide)<|hv (3+3*j)<|by lia) af<|by decide)<|by rw[YI])<|aw ?_)<|.keep<|.keep<|.keep<|.keep<|.forget<|.forget<|.forget<|.forget .nil⟩;by_cases w0:wy=0;·refine dD (Sg.eq (fH (aa t 7) af)<|ap w0)<|au (iH t 3<|Ss.eq (fq (Se.eq (Ss.SF<|gu (Se.ql<|aa t 3) eZ<|eO<|aa t 5)<|aV D.lst c1) (Se.eq (Ss.SF<|gu (Se.ql<|aa t 3) (eO<|bK (aa t 5) af) eZ)<|aV D.lst c3)<|by rw[bY,bY];exact xD<|by lia)<|by rw[<-e8])<|eE 3 rfl ?_;unfold Ef;rw[ax w0];exact bQ
  ·by_cases w1:wy=1;·refine cB (Sg.eq (fH (aa t 7) af)<|ak w0)<|aw<|dD (Sg.eq (fH (aa t 7) af)<|ap w1)<|au (iH t 3<|Ss.eq (fq (Ss.SF<|fq (Se.eq (Ss.SF<|gu (Se.ql<|aa t 3) eZ<|eO<|aa t 5)<|aV D.lst c1) (Ss.SF<|bE<|ac (aa t 6) ah)<|by rw[bY];exact xD<|by simp;lia) (Se.eq (Ss.SF<|gu (Se.ql<|aa t 3) (eO<|aa t 5) eZ)<|aV D.lst c2)<|by rw[aq,bY,bY];exact xD<|by simp;lia) (show _=az (f.take a++[m]++f.drop a)by rw[e8,e8];rfl))<|eE 3 rfl ?_;unfold Ef;rw[av w0,ax w1];exact bQ
   ·refine cB (Sg.eq (fH (aa t 7) af)<|ak w0)<|aw<|cB (Sg.eq (fH (aa t 7) af)<|ak w1)<|au (iH t 3<|Ss.eq (fq (Ss.SF<|fq (Se.eq (Ss.SF<|gu (Se.ql<|aa t 3) eZ<|eO<|aa t 5)<|aV D.lst c1) (Ss.SF<|bE<|ac (aa t 6) ah)<|by rw[bY];exact xD<|by simp;lia) (Se.eq (Ss.SF<|gu (Se.ql<|aa t 3) (eO<|bK (aa t 5) af) eZ)<|aV D.lst c3)<|by rw[aq,bY,bY];exact xD<|by simp;lia) (show _=az (f.take a++[m]++f.drop (a+1))by rw[e8,e8];rfl))<|eE 3 rfl ?_;unfold Ef;rw[av w0,av w1];exact bQ
 ·have e:(dY 0 ((1+(xs.getD 0 0%3).toNat:Nat):Int).toNat).length=1+(xs.getD 0 0%3).toNat:=by rw[aO];simp only[dY,aj,i8,Gf]
  rw[e];rfl
def E5{xs:bh}{n a b:Nat}(h:xs.length=n)(ha:a<=b)(hb:b<=n):(kR xs (some (a:Int))<|some (b:Int)).length=b-a:=by
 unfold kR;have e1:HT.UI xs.length 0 (some (a:Int))=a:=by simp only[HT.UI];split<;>lia
 have e2:HT.UI xs.length xs.length (some (b:Int))=b:=by simp only[HT.UI];split<;>lia
 rw[cQ,bP,e1,e2,h];lia
def Ir{xs:bh}{n:Nat}:EV.cutD (xs.map D.int) (some (n:Int)) none=(xs.drop n).map D.int:=by rw[AQ,uk]
def m6(z:Str)(c:bZ)(e:z=S c)(m:Nat):(List.replicate m [D.str z]).flatten=az (List.replicate m c):=by subst e;induction m with|zero=>rfl|succ m ih=>rw[bc,cY,ih,bc];rfl
def xu(xs:bh):Nat:=(xs.getD 2 0%31).toNat
def b4(tk:TK)(xs:bh):TK:=([List.replicate (xu xs) [40]++tk++List.replicate (xu xs) [41],List.replicate (xu xs) [45]++[[120]],[[120],[94],qM<|xu xs]]:List TK).getD (xs.getD 3 0%3).toNat []
def p4(xs:bh):TK:=if xs.getD 3 0 / 3%3=1 then [[121],[45]]else []
def GK(tk:TK)(xs:bh):TK:=if xs.getD 1 0%6<4 then Md tk (kR xs (some 2)<|some 12)else if xs.getD 1 0%6=4 then p4 xs++b4 tk xs else tk
def P6(x:Int):bZ:=([[],[32],[32,32,32]]:TK).getD (x%3).toNat []
def LH(x:Int):bZ:=if x%2=0 then [32]else [32,32]
def K2(tk:TK)(xs:bh):bZ:=if tk=[]then P6 (xs.getD 4 0)else wC tk<|kR xs (some 12)<|some 30
def aT(cs:bZ)(x:Int):Nat:=(x%((cs.length:Int)+1)).toNat
def PU(cs:bZ)(xs:bh):bZ:=if xs.getD 1 0%6=5 then cs.take (aT cs<|xs.getD 5 0)++LH (xs.getD 6 0)++cs.drop (aT cs<|xs.getD 5 0)else cs
def Em(xs:bh):Nat:=(xs.getD 0 0%5).toNat
def Qo(xs:bh):bZ:=PU (K2 (GK (kU 1 (xs.drop 40)<|Em xs).tk xs) xs) xs
def Pn(cs:bZ):Prop:=(∀c∈cs,c<128/\c≠33)/\cs.length<=2100/\nb cs<=380
def Hg{n:Nat}{α:Type}(a b c z:α)(h:n<3)(P:α->Prop)(ha:P a)(hb:P b)(hc:P c):P (([a,b,c]:List α).getD n z):=by
 match n,h with
 |0,_=>exact ha|1,_=>exact hb
 |2,_=>exact hc|n+3,h=>lia
def GJ{tk:TK}(h:∀u∈tk,og u)(hc:cT tk<=300)(xs:bh):(∀u∈GK tk xs,og u)/\cT (GK tk xs)<=380:=by
 unfold GK;split;·have:=Mc h<|kR xs (some 2)<|some 12;exact⟨this.1,by lia⟩
 ·split
  ·have hm:xu xs<=30:=by unfold xu;lia
   have h1:(∀u∈p4 xs,og u)/\cT (p4 xs)<=2:=by
    unfold p4;split;·exact⟨dI (a:=[[121]]) (e9<|oh<|by decide)<|e9<|oh<|by decide,by decide⟩
    ·exact⟨(λu hu=>nomatch hu),by decide⟩
   have h2:(∀u∈b4 tk xs,og u)/\cT (b4 tk xs)<=360:=by
    unfold b4;refine Hg _ _ _ _ (show(xs.getD 3 0%3).toNat<3 by lia) (λT:TK=>(∀u∈T,og u)/\cT T<=360) ⟨?_,?_⟩ ⟨?_,?_⟩ ⟨?_,?_⟩;·exact dI (dI (u5 (oh<|by decide) _) h)<|u5 (oh<|by decide) _
    ·rw[fJ,fJ,wV,wV];show xu xs*1+_+xu xs*1<=_;lia
    ·exact dI (u5 (oh<|by decide) _)<|e9<|oh<|by decide
    ·rw[fJ,wV];show xu xs*1+1<=_;lia
    ·exact dI (a:=[[120],[94]]) (dI (a:=[[120]]) (e9<|oh<|by decide)<|e9<|oh<|by decide)<|e9<|K5 _
    ·have:=(Dh (n:=xu xs) (k:=2) (by decide)<|by lia).1;show 1+(1+((qM<|xu xs).length+0))<=_;lia
   exact⟨dI h1.1 h2.1,by rw[fJ];lia⟩
  ·exact⟨h,by lia⟩
def Gz{tk:TK}(h:∀u∈tk,og u)(hc:cT tk<=380)(xs:bh):(∀c∈K2 tk xs,c<128/\c≠33)/\(K2 tk xs).length<=2000/\nb (K2 tk xs)<=380:=by
 unfold K2;split;·unfold P6;exact Hg [] [32] [32,32,32] [] (show(xs.getD 4 0%3).toNat<3 by lia) (λT:bZ=>(∀c∈T,c<128/\c≠33)/\T.length<=2000/\nb T<=380) (by decide) (by decide)<|by decide
 ·have hl:=t6 h;have hw:=Oc tk;have:=HK tk<|kR xs (some 12)<|some 30;exact⟨J8 h _,by lia,ao (J7 _ _) hc⟩
def Iy(x:Int):(∀c∈LH x,c<128/\c≠33)/\(LH x).length<=2/\nb (LH x)=0:=by unfold LH;split<;>decide
def L5{cs:bZ}(h:(∀c∈cs,c<128/\c≠33)/\cs.length<=2000/\nb cs<=380)(xs:bh):Pn (PU cs xs):=by
 have b:=Iy<|xs.getD 6 0;unfold PU Pn;split
 ·generalize aT cs (xs.getD 5 0)=a;have e:nb (cs.take a)+nb (cs.drop a)=nb cs:=by rw[<-qP,mO]
  refine⟨λc hc=>?_,?_,?_⟩
  ·rcases List.mem_append.mp hc with hc |hc
   ·rcases List.mem_append.mp hc with hc |hc;·exact h.1 c<|cg hc
    ·exact b.1 c hc
   ·exact h.1 c<|Bt hc
  ·rw[aq,aq,cQ,bP];lia
  ·rw[qP,qP];lia
 ·exact⟨h.1,by lia,h.2.2⟩
def K8(xs:bh):(∀u∈(kU 1 (xs.drop 40)<|Em xs).tk,og u)/\cT (kU 1 (xs.drop 40)<|Em xs).tk<=300:=by have v:=RB (xs.drop 40) (Em xs) (by unfold Em;lia);exact⟨v.tk,v.wd⟩
def L4(xs:bh):Pn (Qo xs):=by have s:=K8 xs;have a:=GJ s.1 s.2 xs;exact L5 (Gz a.1 a.2 xs) xs
def pB(ds:aQ)(d:D):Prop:=∃c:Int,ds=[.int c]/\d=.str (S<|Qo<|jV c 120)
def xM:∀ds d,pB ds d->ds.length=1:=by rintro _ _ ⟨_,rfl,_⟩;rfl
def Cc(tk:TK):(fS<|.lst<|az tk).eqv (fS<|.lst [])=decide (tk=[]):=by cases tk with|nil=>rfl|cons u b=>rw[ak<|by simp];rfl
def ve{tk:TK}(h:∀u∈tk,og u):Fn 2 (.lst<|az tk):=Fn.lst λx hx=>by obtain⟨u,hu,rfl⟩:=List.mem_map.mp hx;exact Dw (dA λc hc=>((h u hu).2 c hc).1)
def CC(h:DefX P w K mg base k pd (ai lh) X)(Th:mg "int"=none)(US:mg "str"=none)(Sm:mg "len"=none)(cN:EV.Callee X "_law_numbers" iY)(cS:SX X "_law_sum" (nN 1))(cP:EV.Callee X "_law_spoilt" l8)(cJ:EV.Callee X "_law_joined" l9):
    Go X pd lh pB:=by
  rintro ds d ⟨c,rfl,rfl⟩
  have t:=h.at'
  haveI:=h.S5
  have b1:=h.bt Th
  have b2:=h.bt US
  have b3:=h.bt Sm
  show Sf X [.val<|.int c,.un,.un,.un,.un,.un,.un,.un] _ _
  refine au (aX (d:=eU<|jV c 120) t 1<|aG t cN (ac (aa t 0)<|ac af ah) ⟨c,120,rfl,by decide,rfl⟩) ?_
  have hxl:(jV c 120).length=120:=tK _ _
  generalize jV c 120=xs at hxl
  have hv:∀n:Nat,n<120->kS (xs.map D.int) (n:Int)=some (.int<|xs.getD n 0):=fun n hn=>xg<|by lia
  have hr:Em xs<=6:=by unfold Em;lia
  have er:xs.getD 0 0%5=((Em xs:Nat):Int):=by unfold Em;lia
  have WZ:(xs.drop 40).length<=200:=by rw[bP];lia
  have c10:(kR xs (some 2)<|some 12).length=10:=E5 (a:=2) (b:=12) hxl (by lia)<|by lia
  have c18:(kR xs (some 12)<|some 30).length=18:=E5 (a:=12) (b:=30) hxl (by lia)<|by lia
  have so:=K8 xs
  unfold Qo
  refine au (ρ':=[.val<|.int c,.val<|eU xs,.val<|.lst<|az (kU 1 (xs.drop 40)<|Em xs).tk,.val<|.So (kU 1 (xs.drop 40)<|Em xs).kv,.un,.un,.un,.un]) (la t (Ia (d:=oD<|kU 1 (xs.drop 40)<|Em xs) t cS (Ss.eq (gu (Se.ql<|aa t 1) (eO af) eZ)<|Ir (n:=40)) (ac (Se.eq (bO (aY (Se.ql<|aa t 1) af<|hv 0<|by lia) af<|by decide)<|by rw[er])<|ac af ah) ⟨xs.drop 40,Em xs,rfl,hr,WZ,rfl,rfl,rfl⟩)<|gG t<|bN (bv t 2)<|bN (bv t 3) fx) ?_
  generalize kU 1 (xs.drop 40) (Em xs)=o at so
  refine au (aX (d:=.int<|xs.getD 1 0%6) t 4<|bO (aY (Se.ql<|aa t 1) af<|hv 1<|by lia) af<|by decide) ?_
  generalize YI:xs.getD 1 0%6=wy
  have tf:=GJ so.1 so.2 xs
  have hm4:xs.getD 2 0%31=((xu xs:Nat):Int):=by unfold xu;lia
  have zJ8:xu xs<=30:=by unfold xu;lia
  have Zy:=t6 so.1
  refine Kv 5<|au (ρ':=[.val<|.int c,.val<|eU xs,.val<|.lst<|az (if wy<4 then Md o.tk (kR xs (some 2)<|some 12) else o.tk),.val<|.So o.kv,.val<|.int wy,.un,.un,.un]) ?_ ?_
  · by_cases q:wy<4
    · rw[ax q]
      exact dD (Sg.eq (fZ (aa t 4) af)<|ap q)<|aw<|aX t 2<|aG t cP (ac (aa t 2)<|ac (Se.eq (Ss.SF<|gu (Se.ql<|aa t 1) (eO af)<|eO af)<|by rw[sK]) ah) ⟨o.tk,kR xs (some 2)<|some 12,rfl,c10,so.1,by have:=so.2;lia,rfl⟩
    · rw[av q]
      exact cB (Sg.eq (fZ (aa t 4) af)<|ak q) bQ
  refine au (ρ':=[.val<|.int c,.val<|eU xs,.val<|.lst<|az<|GK o.tk xs,.val<|.So o.kv,.val<|.int wy,.un,.un,.un]) ?_ ?_
  · by_cases q:wy=4
    · have e0:GK o.tk xs=p4 xs++b4 o.tk xs:=by unfold GK;rw[YI,av<|by lia,ax q]
      rw[e0,av<|by lia]
      refine dD (Sg.eq (fH (aa t 4) af)<|ap q) ?_
      have lb:(b4 o.tk xs).length<=400:=by
        unfold b4
        exact Hg _ _ _ _ (show(xs.getD 3 0%3).toNat<3 by lia) (fun T:TK=>T.length<=400) (by simp;have:=so.2;lia) (by simp;lia)<|by simp
      have hb4:kS ([.lst<|az<|List.replicate (xu xs) [40]++o.tk++List.replicate (xu xs) [41],.lst<|az<|List.replicate (xu xs) [45]++[[120]],.lst<|az [[120],[94],qM<|xu xs]]:aQ) (xs.getD 3 0%3)=some (.lst<|az<|b4 o.tk xs):=by
        obtain⟨n,hn⟩:=gL<|ft (xs.getD 3 0) (show(3:Int)≠0 by decide)
        have n3:n<3:=by lia
        unfold b4
        rw[hn]
        match n,n3 with
        |0,_=>rfl
        |1,_=>rfl
        |2,_=>rfl
        |n+3,h=>lia
      have hp4:kS ([.lst [],.lst<|az [[121],[45]]]:aQ) (if decide (xs.getD 3 0 / 3%3=1)=true then 1 else 0)=some (.lst<|az<|p4 xs):=by
        unfold p4
        by_cases z:xs.getD 3 0 / 3%3=1
        · rw[ap z,ax rfl,ax z];rfl
        · rw[ak z,av ay,av z];rfl
      refine Sf.weak (ρ1:=[.val<|.int c,.val<|eU xs,.val<|.lst<|az<|p4 xs++b4 o.tk xs,.val<|.So o.kv,.val<|.int wy,.val<|.int<|xu xs,.un,.un]) (au (aX (d:=.int<|xu xs) t 5<|Se.eq (bO (aY (Se.ql<|aa t 1) af<|hv 2<|by lia) af<|by decide)<|by rw[hm4])<|au (aX (d:=.lst<|az<|b4 o.tk xs) t 2<|aY (Ss.toQ<|bE<|ac (Se.eq (Ss.SF<|fq (Ss.SF<|fq (Ss.SF<|t4 (Ss.SF<|bE<|ac Sd ah) (aa t 5) (by lia) (by lia) ?_) (aa t 2) ?_) (Ss.SF<|t4 (Ss.SF<|bE<|ac Sd ah) (aa t 5) (by lia) (by lia) ?_) ?_) ?_)<|ac (Se.eq (Ss.SF<|fq (Ss.SF<|t4 (Ss.SF<|bE<|ac Sd ah) (aa t 5) (by lia) (by lia) ?_) (Ss.SF<|bE<|ac Sd ah) ?_) ?_)<|ac (Se.eq (Ss.SF<|bE<|ac Sd<|ac Sd<|ac (AD t b2 (aa t 5)<|HA (n:=xu xs)<|by lia) ah) ?_) ah) (bO (aY (Se.ql<|aa t 1) af<|hv 3<|by lia) af<|by decide) hb4)<|aw<|aX t 2<|Se.eq (Ss.SF<|fq (aY (Ss.toQ<|bE<|ac (Ss.SF<|bE ah)<|ac (Se.eq (Ss.SF<|bE<|ac Sd<|ac Sd ah) ?_) ah) (gX t b1<|Nt t (bO (iR t (aY (Se.ql<|aa t 1) af<|hv 3<|by lia) af<|by decide) af<|by decide) af) hp4) (aa t 2) ?_) ?_)<|.keep<|.keep<|.keep<|.keep<|.keep<|.forget<|.keep<|.keep .nil
      · rw[aO];exact xD<|by simp;lia
      · rw[aO,m6 _ _ N7,bY,bY];exact xD<|by simp;have:=so.2;lia
      · rw[aO];exact xD<|by simp;lia
      · rw[aO,m6 _ _ N7,m6 _ _ PP,aq,bY,bY,bY];exact xD<|by simp;have:=so.2;lia
      · rw[aO,m6 _ _ N7,m6 _ _ PP,<-e8,<-e8]
      · rw[aO];exact xD<|by simp;lia
      · rw[aO,m6 _ _ Bx,bY];exact xD<|by simp;lia
      · rw[aO,m6 _ _ Bx,LQ,e8];rfl
      · rw[Ht,LQ,Jb];rfl
      · rw[PN,Bx];rfl
      · rw[bY,bY];exact xD (by
                                             have:(p4 xs).length<=2:=by(unfold p4;split<;>simp)
                                             lia)
      · rw[<-e8]
    · have e0:GK o.tk xs=if wy<4 then Md o.tk (kR xs (some 2)<|some 12) else o.tk:=by
        unfold GK;rw[YI,av q]
      rw[e0]
      exact cB (Sg.eq (fH (aa t 4) af)<|ak q) bQ
  have t1:=Gz tf.1 tf.2 xs
  have tl:=t6 tf.1
  have tw:=Oc<|GK o.tk xs
  generalize GK o.tk xs=tk at tf t1 tl tw
  refine au (aX t 6<|aG t cJ (ac (aa t 2)<|ac (Se.eq (Ss.SF<|gu (Se.ql<|aa t 1) (eO af)<|eO af)<|by rw[sK]) ah) ⟨tk,kR xs (some 12)<|some 30,rfl,c18,tf.1,by have:=tf.2;lia,rfl⟩) ?_
  have b3a:kS ([.str "",.str " ",.str "   "]:aQ) (xs.getD 4 0%3)=some (.str<|S<|P6<|xs.getD 4 0):=by
    obtain⟨n,hn⟩:=gL<|ft (xs.getD 4 0) (show(3:Int)≠0 by decide)
    have n3:n<3:=by lia
    unfold P6
    rw[hn]
    match n,n3 with
    |0,_=>rw[Qk];rfl
    |1,_=>rw[Gq];rfl
    |2,_=>rw[show("   " : Str)=S [32,32,32] by decide];rfl
    |n+3,h=>lia
  refine au (ρ':=[.val<|.int c,.val<|eU xs,.val<|.lst<|az tk,.val<|.So o.kv,.val<|.int wy,.un,.val<|.str<|S<|K2 tk xs,.un]) ?_ ?_
  · unfold K2
    by_cases q:tk=[]
    · rw[ax q]
      exact dD (hW t (Se.p<|aa t 2) (Se.p<|Ss.SF<|bE ah) ((ve tf.1).sh<|by decide) ((ve (tk:=[]) fun u hu=>nomatch hu).sh<|by decide)<|(Cc tk).trans<|ap q)<|aw<|aX t 6<|aY (Ss.toQ<|bE<|ac Sd<|ac Sd<|ac Sd ah) (bO (aY (Se.ql<|aa t 1) af<|hv 4<|by lia) af<|by decide) b3a
    · rw[av q]
      exact cB (hW t (Se.p<|aa t 2) (Se.p<|Ss.SF<|bE ah) ((ve tf.1).sh<|by decide) ((ve (tk:=[]) fun u hu=>nomatch hu).sh<|by decide)<|(Cc tk).trans<|ak q) bQ
  generalize K2 tk xs=cs at t1
  have b2a:kS ([.str " ",.str "  "]:aQ) (xs.getD 6 0%2)=some (.str<|S<|LH<|xs.getD 6 0):=by
    unfold LH
    by_cases z:xs.getD 6 0%2=0
    · rw[ax z,z,Gq];rfl
    · rw[av z,show xs.getD 6 0%2=1 by lia,show("  " : Str)=S [32,32] by decide];rfl
  unfold PU
  by_cases q:wy=5
  · rw[ax<|by rw[YI];exact q]
    have ea:xs.getD 5 0%((cs.length:Int)+1)=((aT cs (xs.getD 5 0):Nat):Int):=by unfold aT;rw[gA<|ft _<|by lia]
    have al:aT cs (xs.getD 5 0)<=cs.length:=by
      have:=rD (xs.getD 5 0) (show(0:Int)<(cs.length:Int)+1 by lia)
      lia
    generalize aT cs (xs.getD 5 0)=a at ea al
    have b5:=Iy<|xs.getD 6 0
    have hcz:(S cs).length<=sizeLine:=TN<|by have:=t1.2.1;lia
    refine au (dD (Sg.eq (fH (aa t 4) af)<|ap q)<|au (aX (d:=.int a) t 7<|Se.eq (bO (aY (Se.ql<|aa t 1) af<|hv 5<|by lia) (bK (dB t b3 (aa t 6) hcz) af)<|by rw[cq];lia)<|by rw[cq,ea])<|aw<|aX (d:=.str<|S<|cs.take a++LH (xs.getD 6 0)++cs.drop a) t 6<|Se.eq (pR (pR (Ca (aa t 6) eZ (eO<|aa t 7) hcz) (aY (Ss.toQ<|bE<|ac Sd<|ac Sd ah) (bO (aY (Se.ql<|aa t 1) af<|hv 6<|by lia) af<|by decide) b2a) ?_) (Ca (aa t 6) (eO<|aa t 7) eZ hcz) ?_) ?_)<|aw<|bg<|aa t 6
    · rw[NL,cq,cq,cQ];exact Jq<|by have:=t1.2.1;lia
    · rw[NL,IG al,uz,cq,cq,aq,cQ,bP];exact Jq<|by have:=t1.2.1;lia
    · rw[NL,IG al,uz,uz]
  · rw[av<|by rw[YI];exact q]
    exact au (cB (Sg.eq (fH (aa t 4) af)<|ak q) bQ)<|aw<|bg<|aa t 6
def zr(ds:aQ)(d:D):Prop:=∃ns:bh,ds=[.Vg ns]/\ns.length<=63/\d=.bl true
def J4:∀ds d,zr ds d->ds.length=1:=by rintro _ _ ⟨_,rfl,_⟩;rfl
def HE(ns:bh)(h:ns.length<=63):zr [.Vg ns] (.bl true):=⟨ns,rfl,h,rfl⟩
def BL(h:Pn cs):kh [.str<|S cs] (.bl true):=⟨cs,rfl,λc hc=>(h.1 c hc).1,λc hc=>(h.1 c hc).2,by have:=h.2.1;lia,h.2.2,rfl⟩
def RL:aQ:=[.Sy,.int 7,.lst [.str "x"],.tup [.str "x"],.bl true,.tup [.tup [.int 0,.int 1]]]
def Og(x:Int):∃d,kS RL (x%6)=some d/\gl [d]:=by
 obtain⟨n,hn⟩:=gL<|ft x (show(6:Int)≠0 by decide);have n6:n<6:=by lia
 have go:∀{d:D},Pk d=true->HN d=false->gl [d]:=λ{d}h1 h2=>⟨d,rfl,.inl<|.inl ⟨h1,h2⟩⟩;rw[hn]
 match n,n6 with
 |0,_=>exact⟨_,rfl,go rfl rfl⟩|1,_=>exact⟨_,rfl,go rfl rfl⟩
 |2,_=>exact⟨_,rfl,go rfl rfl⟩|3,_=>exact⟨_,rfl,go rfl rfl⟩
 |4,_=>exact⟨_,rfl,go rfl rfl⟩|5,_=>exact⟨_,rfl,go rfl rfl⟩
 |n+6,h=>lia
def OH:∀n:Nat,nb (List.replicate n 32)=0:=λn=>by unfold nb;rw[uX,xp];exactλc hc=>by rw[(List.mem_replicate.mp hc).2];decide
def Pd(h:DefX P w K mg base k II (ai vR) X)(cC:EV.Callee X "_law_cell" pE)(cN:EV.Callee X "_law_numbers" iY)(cT:EV.Callee X "_law_text" pB)(cR:EV.Callee X "_law_right" kh)(cF:EV.Callee X "_law_refused" iX):Go X II vR zr:=by
 rintro ds d ⟨ns,rfl,hn,rfl⟩;have t:=h.at';haveI:=h.S5;show Sf X [.val<|.Vg ns,.un,.un,.un,.un] _ _;have hz:=Iu ns (some 1)<|some 9;refine au (ik t (ds:=((sM ns 0)::kR ns (some 1) (some 9)).map D.int) (qZ<|Se.eq (Ss.SF<|fq (Ss.SF<|bE<|ac (aG t cC (ac (aa t 0)<|ac af ah) ⟨ns,0,rfl,by decide,by decide,rfl⟩) ah) (Se.eq (Ss.SF<|gu (Se.qs<|aa t 0) (eO af)<|eO af)<|by rw[sK]) ?_) rfl) (SJ.same [.val<|.Vg ns,.un,.un,.un,.un] _ λd hd=>?_)) ?_;·have:=y8;simp;lia
 ·obtain⟨c,_,rfl⟩:=List.mem_map.mp hd;exact⟨_,bv t 1,Sf.weak (aw<|cB (Sg.eq (nu<|jJ<|aG t cR (ac (aG t cT (ac (aa t 1) ah) ⟨c,rfl,rfl⟩) ah)<|BL<|L4<|jV c 120) rfl) bQ)<|.keep<|.forget<|.keep<|.keep<|.keep .nil⟩
 have hxl:(jV (sM ns 0) 2).length=2:=tK _ _;refine au (aX (d:=.int<|(jV (sM ns 0) 2).getD 1 0) t 2<|aY (Se.ql<|aG t cN (ac (aG t cC (ac (aa t 0)<|ac af ah) ⟨ns,0,rfl,by decide,by decide,rfl⟩)<|ac af ah) ⟨sM ns 0,2,rfl,by decide,rfl⟩) af<|xg (n:=1)<|by lia) ?_;generalize(jV (sM ns 0) 2).getD 1 0=x;obtain⟨d,hd,hr⟩:=Og x;have em:1001-x / 6%4-1=((1000-(x / 6%4).toNat:Nat):Int):=by lia
 generalize hmm:1000-(x / 6%4).toNat=m at em;have hm:m<=1000:=by lia
 have tx:Pn ([120]++List.replicate m 32):=by
  refine⟨λc hc=>?_,by simp;lia,by rw[qP,OH];decide⟩;rcases List.mem_append.mp hc with hc |hc;·rw[bu.mp hc];decide
  ·rw[(List.mem_replicate.mp hc).2];decide
 refine au (aX (d:=d) t 3<|aY (Ss.toQ<|bE<|ac gh<|ac af<|ac (Ss.SF<|bE<|ac Sd ah)<|ac (aF<|ac Sd ah)<|ac Cb<|ac (aF<|ac (aF<|ac af<|ac af ah) ah) ah) (bO (aa t 2) af<|by decide) hd) ?_;refine au (aX (d:=.int<|1001-x / 6%4) t 4<|jj af<|bO (iR t (aa t 2) af<|by decide) af<|by decide)<|aw<|bg<|Se.eq (vh (u:=true) (v:=true) (AG t (Se.p<|aG t cF (ac (aa t 3) ah)<|.inl ⟨hr,rfl⟩) (Se.p<|aF<|ac Sd<|ac Cb ah) (U3.sh<|by decide) (U3.sh<|by decide) U3.2.2) λ_=>aG t cR (ac (Se.eq (pR Sd (Kn (u:=[32]) (n:=m) (Se.eq Sd<|by rw[Gq]) (Se.eq (jj (aa t 4) af)<|aV D.int em) (by decide)<|by lia) ?_) ?_) ah)<|BL tx) rfl;·rw[LQ,cq,cq];exact Jq<|by simp;lia
 ·rw[LQ,uz];have:(List.replicate m [32]).flatten=List.replicate m 32:=by clear em hmm hm tx;induction m with|zero=>rfl|succ m ih=>rw[bc,cY,ih,bc];rfl
  rw[this]
def Il{T:TK}(h:∀i,i<=T.length->dp T i<=20)(a:Nat):dp T a<=20:=by
 by_cases q:a<=T.length;·exact h a q
 ·have e:T.take a=T.take T.length:=by rw[ie<|by lia,bW]
  unfold dp;rw[e];exact h _<|ar _
def Vq.dpa(h:Vq T)(a:Nat):dp T a<=20:=Il h.deep a
def Xk.dpa(h:Xk T)(a:Nat):dp T a<=20:=Il h.deep a
def KA{K:ce}{R:cH->aQ->Int×aQ->Prop}(h:DefX P w K mg base k N sc X)(F:dQ P w K mg base (yf P w) j f fd ps (Fo K C R))(b:Bn K mg x f fd ps)(hj:j<=k:=by decide):fQ X x C R:=h.zD9 F hj b.m b.k b.b
def Pc{ps:cH}{us:ir}(h:us.length=2)(k:∀a0 a1,bindArgs fd ⟨[a0,a1],[]⟩=pure (ps.zip [a0,a1])):bindArgs fd ⟨us,[]⟩=pure (ps.zip us):=match us,h with |[a0,a1],_=>k a0 a1
set_option maxHeartbeats 4000000 in
def all_mk{K:ce}{l:PySem.W.OpenLaw}(ht:l.prog.given.tree=none)(X:K.In h)(G:h.Ns mainGlobals mg)(hfa:mg "law"=some (.ref fa))(d1:Kd K "without_end" ju f1 g1)(d2:Kd K "part_at" pJ f2 g2)(d3:Kd K "row_of" rZ f3 g3)(d4:Kd K "row_plus" mY f4 g4)(d5:Kd K "other_sign" jZ f5 g5)(d6:Kd K "row_times" jH f6 g6)(d7:Kd K "board_of" mZ f7 g7)(d8:Kd K "board_plus" j5 f8 g8)(d9:Kd K "board_minus" jv f9 g9)(d10:Kd K "board_times" gN f10 g10)(d11:Kd K "is_number" k9 f11 g11)(d12:Kd K "end_of_run" j4 f12 g12)(d13:Kd K "refuse_wrong_run" c8 f13 g13)(d14:Kd K "token_at" jf f14 g14)(d15:Kd K "tokens_of" bU f15 g15)(d16:Kd K "refuse_deep" fj f16 g16)(d17:Kd K "reader_of" ii f17 g17)(d18:Kd K "next_token" j0 f18 g18)(d19:Kd K "take_token" jY f19 g19)(d20:Kd K "take_one_of" fT f20 g20)(d21:Kd K "refuse_more" fU f21 g21)(d22:Kd K "read_atom" gf f22 g22)(d23:Kd K "read_power" fF f23 g23)(d24:Kd K "read_factor" fk f24 g24)(d25:Kd K "read_product" eJ f25 g25)(Z5:Kd K "read_sum" hJ f26 g26)(d27:Kd K "atom_of" pK f27 g27)(d28:Kd K "power_of_board" gq f28 g28)(d29:Kd K "take_term_step" gp f29 g29)(d30:Kd K "read_term" ij f30 g30)(d31:Kd K "_law_cell" lr f31 g31)(d32:Kd K "_law_numbers" iK f32 g32)(d33:Kd K "_law_trim" lc f33 g33)(d34:Kd K "_law_board_of" gV f34 g34)(d35:Kd K "_law_product" iJ f35 g35)(d36:Kd K "_law_pick" lj f36 g36)(d37:Kd K "_law_add" m5 f37 g37)(d38:Kd K "_law_atom" lu f38 g38)(d39:Kd K "_law_factor" jy f39 g39)(d40:Kd K "_law_prod" li f40 g40)(d41:Kd K "_law_sum" m3 f41 g41)(d42:Kd K "_law_joined" jx f42 g42)(d43:Kd K "_law_marks" cD f43 g43)(d44:Kd K "_law_is_number" gs f44 g44)(d45:Kd K "_law_mark" lq f45 g45)(d46:Kd K "_law_open" ll f46 g46)(d47:Kd K "_law_tree_atom" gr f47 g47)(d48:Kd K "_law_tree_factor" eL f48 g48)(d49:Kd K "_law_tree_prod" cb f49 g49)(d50:Kd K "_law_tree_sum" b0 f50 g50)(d51:Kd K "_law_bounds" jz f51 g51)(d52:Kd K "_law_meant" j7 f52 g52)(d53:Kd K "_law_spoilt" jw f53 g53)(d54:Kd K "_law_text" lh f54 g54)(d55:Kd K "_law_due" m4 f55 g55)(d56:Kd K "_law_refused" iI f56 g56)(d57:Kd K "_law_right" j6 f57 g57)(d58:Kd K "law" vR f58 g58)(zA:PySem.W.nsIn K mainGlobals "len"=some none)(zB:PySem.W.nsIn K mainGlobals "tuple"=some none)(zC:PySem.W.nsIn K mainGlobals "max"=some none)(zD:PySem.W.nsIn K mainGlobals "range"=some none)(zE:PySem.W.nsIn K mainGlobals "enumerate"=some none)(zF:PySem.W.nsIn K mainGlobals "all"=some none)(zG:PySem.W.nsIn K mainGlobals "isinstance"=some none)(zH:PySem.W.nsIn K mainGlobals "str"=some none)(zI:PySem.W.nsIn K mainGlobals "list"=some none)(zJ:PySem.W.nsIn K mainGlobals "int"=some none)(zK:PySem.W.nsIn K mainGlobals "abs"=some none)(zL:PySem.W.nsIn K mainGlobals "dict"=some none)(zM:PySem.W.nsIn K mainGlobals "min"=some none)(Vx:PySem.W.nsIn K mainGlobals "ValueError"=some none)(zN:PySem.W.nsIn K mainGlobals "any"=some none)(zO:PySem.W.nsIn K mainGlobals "WORDS"=some (some<|.ref zP))(zQ:K.lookup zP=some ⟨.type "tuple",zR,.seq zS zT,zU⟩)(zV:Xm K zS.toList [.str "x",.str "y",.str "not",.str "and",.str "or",.str "some",.str "all"])(zW:PySem.W.nsIn K mainGlobals "DOUBLE_SIGNS"=some (some<|.ref zX))(zY:K.lookup zX=some ⟨.type "tuple",zZ,.seq yA yB,yC⟩)(yD:Xm K yA.toList [.str "<=",.str ">=",.str "!="])(yE:PySem.W.nsIn K mainGlobals "FIGURES"=some (some<|.str ("0123456789":Str) yF))(yG:PySem.W.nsIn K mainGlobals "MOST_OPEN"=some (some<|.int 20 yH))(yI:PySem.W.nsIn K mainGlobals "MOST_MINUSES"=some (some<|.int 20 yJ))(yK:PySem.W.nsIn K mainGlobals "MOST_SIGNS"=some (some<|.int 1000 yL))(eR:PySem.W.nsIn K mainGlobals "Reader"=some (some<|.ref cR))(r1:PySem.W.makesIn K cR=true)(r2:PySem.W.findIn K (.ref cR) "__init__"=some (some<|.ref fI))(r3:PySem.W.isFn K (.ref fI)=true)(r4:PySem.W.keepIn K (.ref cR)=true)(r5:PySem.W.plainGet K cR Str.empty=true)(r6:PySem.W.hasDictIn K cR=true)(r7:PySem.W.plainOver K cR=true)(r8:PySem.W.findIn K (.ref cR) "__setattr__"=some (some<|.builtin "object.__setattr__"))(r9:PySem.W.findIn K (.ref cR) "tokens"=some none)(r10:PySem.W.findIn K (.ref cR) "done"=some none)(r11:PySem.W.findIn K (.ref cR) "steps"=some none)(lI:K.lookup fI=some ⟨ocI,odI,.func<|PySem.W.fnOf "__init__" "Reader.__init__" (iU gO) (aD gO) (ai gO) .none kVI dcI pmI anI cdI ctI,slI⟩)(cI:PySem.W.codeIn K cdI "Reader.__init__"=true)(kI:PySem.W.keepIn K (.ref fI)=true)(VT:PySem.W.nsIn K mainGlobals "NoText"=some (some<|.ref Sn))(q_NoText:PySem.W.excIn K Sn vB vN=true)(VD:PySem.W.nsIn K mainGlobals "StackError"=some (some<|.ref T2))(q_StackError:PySem.W.excIn K T2 vB vN=true)(WR:PySem.W.mroIn K Sn (.ref T2)=some true)(V9:PySem.W.nsIn K mainGlobals "NoNumber"=some (some<|.ref U8))(t_NoNumber:PySem.W.kitOne K (.ref Sn) (.ref U8)=some false)(XI:PySem.W.nsIn K mainGlobals "NoRow"=some (some<|.ref VU))(t_NoRow:PySem.W.kitOne K (.ref Sn) (.ref VU)=some false)(W8:PySem.W.nsIn K mainGlobals "NoEnds"=some (some<|.ref Vv))(t_NoEnds:PySem.W.kitOne K (.ref Sn) (.ref Vv)=some false)(Wx:PySem.W.nsIn K mainGlobals "NoPlace"=some (some<|.ref Vm))(t_NoPlace:PySem.W.kitOne K (.ref Sn) (.ref Vm)=some false)(W7:PySem.W.nsIn K mainGlobals "NoKind"=some (some<|.ref Vu))(t_NoKind:PySem.W.kitOne K (.ref Sn) (.ref Vu)=some false)(Wa:PySem.W.nsIn K mainGlobals "NoHeight"=some (some<|.ref U9))(t_NoHeight:PySem.W.kitOne K (.ref Sn) (.ref U9)=some false)(W6:PySem.W.nsIn K mainGlobals "NoLine"=some (some<|.ref Vt))(t_NoLine:PySem.W.kitOne K (.ref Sn) (.ref Vt)=some false)(t_T:PySem.W.kitOne K (.ref Sn) (.ref Sn)=some true)(t_V:PySem.W.kitOne K (.ref Sn) (.type "ValueError")=some true)(x_NoText:sU K Sn):∃fd:FuncData,(∀(s:Shared)(v:Value),BindsTo s fd ⟨[v],[]⟩ [("_law_script",v)])/\∀base:Heap,K.In base->base.Ns mainGlobals mg->dQ l.prog w K mg base ja 195 fa fd ["_law_script"] (GN K zr):=by
 have e:=hfa.symm.trans<|aZ X G d58.a;cases e;have yM:=bL X G zA;have yN:=bL X G zB;have yO:=bL X G zC;have yP:=bL X G zD;have yQ:=bL X G zE;have yR:=bL X G zF;have yS:=bL X G zG;have yT:=bL X G zH;have yU:=bL X G zI;have yV:=bL X G zJ;have yW:=bL X G zK;have yX:=bL X G zL;have yY:=bL X G zM;have Ug:=bL X G Vx;have yZ:=bL X G zN;have b1:=d1.b2 X G oj;have b2:=d2.b3 X G vO;have b3:=d3.b1 X G yu;have b4:=d4.b2 X G uo;have b5:=d5.b1 X G qk;have b6:=d6.b2 X G rQ;have b7:=d7.b1 X G uq;have b8:=d8.b2 X G qp;have b9:=d9.b2 X G ot;have b10:=d10.b2 X G oq;have b11:=d11.b1 X G rR;have b12:=d12.b2 X G qo;have b13:=d13.b1 X G gC;have b14:=d14.b2 X G om;have b15:=d15.b1 X G mR;have b16:=d16.b3 X G kE;have b17:=d17.b2 X G mT;have XT:=d18.b1 X G qm;have WI:=d19.b1 X G qj;have b20:=d20.b2 X G kC;have b21:=d21.b1 X G kD;have b22:=d22.b1 X G mV;have b23:=d23.b1 X G lL;have b24:=d24.b1 X G kF;have b25:=d25.b1 X G jP;have YS:=Z5.b1 X G jG;have b27:=d27.b1 X G vP;have b28:=d28.b2 X G kX;have b29:=d29.b2 X G kW;have b30:=d30.b1 X G mU;have b31:=d31.b2 X G rY;have b32:=d32.b2 X G nV;have b33:=d33.b1 X G rS;have b34:=d34.b1 X G my;have Z9:=d35.b2 X G nU;have X9:=d36.b1 X G rV;have b37:=d37.b3 X G ut;have b38:=d38.b3 X G mX;have b39:=d39.b3 X G kG;have b40:=d40.b3 X G mW;have b41:=d41.b3 X G ou;have b42:=d42.b2 X G oy;have b43:=d43.b1 X G qv;have b44:=d44.b1 X G k8;have b45:=d45.b2 X G rX;have b46:=d46.b3 X G rW;have b47:=d47.b2 X G kZ;have b48:=d48.b2 X G jT;have b49:=d49.b2 X G kY;have b50:=d50.b2 X G je;have b51:=d51.b1 X G kH;have b52:=d52.b1 X G lM;have b53:=d53.b2 X G ox;have b54:=d54.b1 X G rT;have b55:=d55.b1 X G ur;have b56:=d56.b1 X G nS;have b57:=d57.b1 X G qu;obtain⟨_,_,kV,dc,pm,an,cd,ct,_,rfl,_,_⟩:=d58.F.ex;refine⟨PySem.W.fnOf "law" "law" (iU vR) (aD vR) (ai vR) .none kV dc pm an cd ct,λs v=>.of_eq rfl,λbase KB _=>?_⟩;have FI:=HU (st:=gO) lI cI kI;have bdI:=FI.binds (ps:=["self","tokens"]) λ_ _ _ _ _ _ us hl=>Pc hl λ_ _=>rfl;have okI:dQ l.prog w K mg base ja 1 _ _ _ (z9 cR):=Kh ht FI vQ ⟨r5,r6,r7,r8⟩ r9 r10 r11 rfl rfl rfl;have TF:OwnCls "NoText" Sn vB vN mg base:=Ey KB (aZ X G VT) q_NoText;have VH:OwnCls "StackError" T2 vB vN mg base:=Ey KB (aZ X G VD) q_StackError;have YM:=@Ki l.prog ht w K mg base;have VS:=@Kj l.prog ht w K mg base;have f_:=@O5 l.prog ht w K mg base;have f_O:=@Nd l.prog ht w K mg base;have zDK:=@Kk l.prog ht w K mg base;have Xf:=@Nc l.prog ht w K mg base;have zDL:=@Kl l.prog ht w K mg base;have f_D:=@Nf l.prog ht w K mg base;have XG:=@Nb l.prog ht w K mg base;have o1:=f_ (k:=0) d1.F oj uG λ_ Z=>x8 Z yM yN;have o2:=f_ (k:=0) d2.F vO B3 λ_ Z=>FX Z yM;have o3:=f_ (k:=1) d3.F yu Dq λ_ Z=>IA Z  (Z.ca o1 b1);have o4:=f_ (k:=2) d4.F uo Au λ_ Z=>DS Z yO yM yP (Z.ca o3 b3)<|Z.ca o2 b2;have o5:=f_ (k:=0) d5.F qk wr λ_ Z=>Bb Z yN;have o6:=f_ (k:=2) d6.F rQ xI λ_ Z=>Cy Z yQ yM<|Z.ca o3 b3;have o7:=f_ (k:=1) d7.F uq Av λ_ Z=>DT Z  (Z.ca o1 b1);have o8:=f_ (k:=3) d8.F qp wv λ_ Z=>Be Z yO yM yP (Z.ca o7 b7) (Z.ca o4 b4)<|Z.ca o2 b2;have o9:=f_ (k:=4) d9.F ot uL λ_ Z=>yb Z yN (Z.ca o8 b8)<|Z.ca o5 b5;have o10:=f_ (k:=3) d10.F oq uK λ_ Z=>ya Z yQ yM (Z.ca o7 b7) (Z.ca o4 b4)<|Z.ca o6 b6;have o11:=f_ (k:=0) d11.F rR xK λ_ Z=>CA Z   ⟨yF,aZ X G yE⟩;have o12:=f_ (k:=0) d12.F qo wu λ_ Z=>Bc Z yM;have o13:=f_O (k:=0) d13.F gC oJ λ_ Z=>q0 Z yR yM  ⟨zP,aZ X G zO,.tup zQ rfl rfl zV⟩ ⟨yF,aZ X G yE⟩;have zBK:=YM (k:=0) d13.F gC nZ λ_ Z=>qc Z yR yM ⟨zP,aZ X G zO,.tup zQ rfl rfl zV⟩ ⟨yF,aZ X G yE⟩ TF;have o14:=f_ (k:=1) d14.F om As λ_ Z=>DR Z  (Z.ca o13 b13) (Z.ca o12 b12) ⟨zX,aZ X G zW,.tup zY rfl rfl yD⟩;have xAt:=YM (k:=1) d14.F om xG λ_ Z=>Cr Z (Z.YR zBK b13)<|Z.ca o12 b12;have o15:=f_ (k:=2) d15.F mR xH λ_ Z=>Cw Z yM<|Z.ca o14 b14;have zBI:=YM (k:=2) d15.F mR wo λ_ Z=>AZ Z yM (Z.ca o14 b14)<|Z.YR xAt b14;have o16:=f_O (k:=0) d16.F kE uJ λ_ Z=>x9 Z   ⟨yH,aZ X G yG⟩;have Y0:=YM (k:=0) d16.F kE tQ λ_ Z=>w8 Z ⟨yH,aZ X G yG⟩ TF;have o17:=zDK (k:=5) d17.F mT xJ λ_ Z=>A8 Z yS yT yM (Z.ca o15 b15) (Z.ca o16 b16)<|Z.mkR okI (by decide) ⟨r1,r2,r3,r4⟩ (aZ X G eR) bdI ⟨r5,r6,r7,r8⟩ r9 r10 r11;have xRd:=YM (k:=5) d17.F mT wp λ_ Z=>A0 Z yS yT yM (Z.ca o15 b15) (Z.YR zBI b15) (Z.ca o16 b16) (Z.YR Y0 b16) TF;have Xw:=Xf (k:=0) d18.F qm wt λ_ Z=>xY Z yM;have WB:=Xf (k:=1) d19.F qj wq λ_ Z=>xW Z  (Z.Uy Xw XT);have o20:=Xf (k:=2) d20.F kC uH λ_ Z=>wX Z  (Z.Uy WB WI);have YY:=VS (k:=2) d20.F kC tO λ_ Z=>w5 Z (Z.Uy WB WI) TF;have o21:=Xf (k:=0) d21.F kD uI λ_ Z=>wY Z yM;have YZ:=VS (k:=0) d21.F kD tP λ_ Z=>w6 Z yM TF;have qr:∀n,dQ l.prog w K mg base ja (5*n+5) f26 g26 ["reader"] (Oy K<|CZ g n)/\dQ l.prog w K mg base (yf l.prog w) (5*n+5) f26 g26 ["reader"] (Fo K Sn<|RZ g n):=λn=>by
  induction n with|zero=>exact⟨Xf (k:=4) Z5.F jG CZ.len λ_ _ _ _ _ _ _ _ z=>by obtain⟨T,a,_,_,_,_,hT,_,hd,_⟩:=z;exact absurd (hT.dpa a)<|by lia,VS (k:=4) Z5.F jG RZ.len λ_ _ _ _ _ _ z=>by obtain⟨T,a,_,_,hT,_,hd,_⟩:=z;exact absurd (hT.dpa a)<|by lia⟩|succ n ih=>
  obtain⟨ih,ihx⟩:=ih;have o1:=Xf (k:=5*n+5) d22.F mV (CZ.len (G:=GA) (n:=n+1)) λ_ Z=>AY Z (Z.Uy WB WI<|by lia) (Z.Uy ih YS<|by lia) (Z.Uy o20 b20<|by lia)<|Z.ca o11 b11 (by lia);have x1:=VS (k:=5*n+5) (C:=Sn) d22.F mV (RZ.len (G:=GA) (n:=n+1)) λ_ Z=>A3 Z (Z.Uy WB WI<|by lia) (Z.Uy ih YS<|by lia) (KA Z ihx YS<|by lia) (KA Z YY b20<|by lia) (Z.ca o11 b11<|by lia) TF;have o2:=Xf (k:=5*n+6) d23.F lL (CZ.len (G:=GW) (n:=n+1)) λ_ Z=>xX Z yU (Z.Uy o1 b22<|by lia) (Z.Uy Xw XT<|by lia) (Z.Uy WB WI<|by lia) (Z.Uy o20 b20<|by lia) ⟨yF,aZ X G yE⟩;have x2:=VS (k:=5*n+6) (C:=Sn) d23.F lL (RZ.len (G:=GW) (n:=n+1)) λ_ Z=>xZ Z yU (Z.Uy o1 b22<|by lia) (KA Z x1 b22<|by lia) (Z.Uy Xw XT<|by lia) (Z.Uy WB WI<|by lia) (KA Z YY b20<|by lia) ⟨yF,aZ X G yE⟩;have o3:=Xf (k:=5*n+7) d24.F kF (CZ.len (G:=GF) (n:=n+1)) λ_ Z=>wZ Z (Z.Uy o2 b23<|by lia) (Z.Uy Xw XT<|by lia) (Z.Uy WB WI<|by lia) ⟨yJ,aZ X G yI⟩;have x3:=VS (k:=5*n+7) (C:=Sn) d24.F kF (RZ.len (G:=GF) (n:=n+1)) λ_ Z=>w9 Z (KA Z x2 b23<|by lia) (Z.Uy Xw XT<|by lia) (Z.Uy WB WI<|by lia) ⟨yJ,aZ X G yI⟩ TF;have o4:=Xf (k:=5*n+8) d25.F jP (CZ.len (G:=My.GP) (n:=n+1)) λ_ Z=>uQ Z (Z.Uy o3 b24<|by lia) (Z.Uy Xw XT<|by lia)<|Z.Uy WB WI (by lia);have x4:=VS (k:=5*n+8) (C:=Sn) d25.F jP (RZ.len (G:=My.GP) (n:=n+1)) λ_ Z=>uR Z (Z.Uy o3 b24<|by lia) (KA Z x3 b24<|by lia) (Z.Uy Xw XT<|by lia)<|Z.Uy WB WI (by lia);have o5:=Xf (k:=5*n+9) Z5.F jG (CZ.len (G:=g) (n:=n+1)) λ_ Z=>Cq Z (Z.Uy o4 b25<|by lia) (Z.Uy Xw XT<|by lia)<|Z.Uy WB WI (by lia);have x5:=VS (k:=5*n+9) (C:=Sn) Z5.F jG (RZ.len (G:=g) (n:=n+1)) λ_ Z=>Cs Z (Z.Uy o4 b25<|by lia) (KA Z x4 b25<|by lia) (Z.Uy Xw XT<|by lia)<|Z.Uy WB WI (by lia);rw[show 5*(n+1)+5=5*n+9+1 by lia];exact⟨o5,x5⟩
 obtain⟨o26,zBJ⟩:=qr 21;have o27:=f_ (k:=0) d27.F vP B4 λ_ Z=>FY Z yV;have o28:=f_ (k:=4) d28.F kX qQ λ_ Z=>t9 Z yP<|Z.ca o10 b10;have o29:=zDL (k:=5) d29.F kW rfl λ_ Z=>sR Z yV (Z.ca o10 b10) (Z.ca o9 b9) (Z.ca o8 b8) (Z.ca o28 b28)<|Z.ca o27 b27;have o30:=f_ (k:=110) d30.F mU qz λ_ Z=>Cz Z  (Z.Z8 o17 b17) (Z.Uy o26 YS) (Z.Uy o21 b21) (Z.zEA o29 b29) ⟨yL,aZ X G yK⟩;have YX:=YM (k:=110) d30.F mU oI λ_ Z=>A1 Z (Z.Z8 o17 b17) (Z.YR xRd b17) (Z.Uy o26 YS) (KA Z zBJ YS) (KA Z YZ b21) ⟨yL,aZ X G yK⟩;have o31:=f_ (k:=0) d31.F rY xQ λ_ Z=>CG Z yM;have o32:=f_ (k:=0) d32.F nV tS λ_ Z=>xf Z yP yW yV;have o33:=f_ (k:=0) d33.F rS xL λ_ Z=>CB Z yU yN yM;have o34:=f_ (k:=1) d34.F my sx λ_ Z=>uU Z yP yN yM<|Z.ca o33 b33;have Zh:=f_D (k:=0) d35.F nU tR λ_ Z=>uS Z;have X0:=XG (k:=0) d36.F rV xN λ_ Z=>A7 Z;have o37:=f_D (k:=0) d37.F ut Ax λ_ Z=>Cv Z yX;have vC:=XG (k:=1) d38.F mX (qB 0) λ_ Z=>sQ Z (.inl rfl) yT yV (Z.V1 X0 X9) λm e=>nomatch e;have vD:=XG (k:=2) d39.F kG (nY 0) λ_ Z=>oV Z (.inl rfl) yP yY yO yT (Z.V1 X0 X9) (Z.V1 vC b38) (Z.XS Zh Z9)<|Z.XS o37 b37;have vE:=XG (k:=3) d40.F mW (qA 0) λ_ Z=>sP Z (.inl rfl)  (Z.V1 vD b39) (Z.V1 X0 X9)<|Z.XS Zh Z9;have vF:=XG (k:=4) d41.F ou (sw 0) λ_ Z=>uy Z (.inl rfl) yP (Z.V1 vE b40) (Z.XS o37 b37)<|Z.V1 X0 X9;have vG:=XG (k:=5) d38.F mX (qB 1) λ_ Z=>sQ Z (.inr rfl) yT yV (Z.V1 X0 X9) (λm e=>by cases e;exact(Z.V1 vF b41));have vH:=XG (k:=6) d39.F kG (nY 1) λ_ Z=>oV Z (.inr rfl) yP yY yO yT (Z.V1 X0 X9) (Z.V1 vG b38) (Z.XS Zh Z9)<|Z.XS o37 b37;have vI:=XG (k:=7) d40.F mW (qA 1) λ_ Z=>sP Z (.inr rfl)  (Z.V1 vH b39) (Z.V1 X0 X9)<|Z.XS Zh Z9;have vJ:=XG (k:=8) d41.F ou (sw 1) λ_ Z=>uy Z (.inr rfl) yP (Z.V1 vI b40) (Z.XS o37 b37)<|Z.V1 X0 X9;have o41:=vJ;have o42:=f_ (k:=0) d42.F oy uN λ_ Z=>yd Z yP yM;have o43:=f_ (k:=0) d43.F qv wx λ_ Z=>Bi Z yM;have o44:=f_ (k:=0) d44.F k8 qR λ_ Z=>uc Z yM yR;have o45:=f_ (k:=0) d45.F rX xP λ_ Z=>CF Z yM;have o46:=f_ (k:=0) d46.F rW xO λ_ Z=>CD Z yV yO;have zBW:∀n,dQ l.prog w K mg base ja (4*n+1) f50 g50 ["_law_marks_here","_law_at"] (GN K<|LC g n):=λn=>by
  induction n with|zero=>exact f_ (k:=0) d50.F je LC.len (λ_ _ _ _ z=>by obtain⟨T,a,_,ok,hd,_⟩:=z;exact absurd (ok.dpa a)<|by lia)|succ n ih=>
  have o1:=f_ (k:=4*n+1) d47.F kZ (LC.len (G:=GA) (n:=n+1)) λ_ Z=>ub Z (Z.ca o45 b45<|by lia) (Z.ca o44 b44<|by lia)<|Z.ca ih b50 (by lia);have o2:=f_ (k:=4*n+2) d48.F jT (LC.len (G:=GF) (n:=n+1)) λ_ Z=>q8 Z yM yV (Z.ca o45 b45<|by lia)<|Z.ca o1 b47 (by lia);have o3:=f_ (k:=4*n+3) d49.F kY (LC.len (G:=My.GP) (n:=n+1)) λ_ Z=>ua Z (Z.ca o45 b45<|by lia)<|Z.ca o2 b48 (by lia);have o4:=f_ (k:=4*n+4) d50.F je (LC.len (G:=g) (n:=n+1)) λ_ Z=>uT Z yV (Z.ca o45 b45<|by lia)<|Z.ca o3 b49 (by lia);rw[show 4*(n+1)+1=4*n+4+1 by lia];exact o4
 have o50:=zBW 21;have q51:∀n,dQ l.prog w K mg base ja (n+1) f51 g51 ["_law_tree"] (GN K<|BC n):=λn=>by induction n with |zero=>exact f_ d51.F kH BC.len (λ_ _ _ _ z=>by obtain⟨t,_,_,hd,_⟩:=z;exact absurd (Q2 t)<|by lia) |succ n ih=>exact f_ d51.F kH BC.len λ_ Z=>ye Z yO yY yV yP<|Z.ca ih b51<|by lia
 have o51:=q51 191;have q52:∀n,dQ l.prog w K mg base ja (n+2) f52 g52 ["_law_tree"] (GN K<|MC n):=λn=>by induction n with |zero=>exact f_ d52.F lM MC.len (λ_ _ _ _ z=>by obtain⟨t,_,_,hd,_⟩:=z;exact absurd (Q2 t)<|by lia) |succ n ih=>exact f_ d52.F lM MC.len λ_ Z=>Bg Z yV yP yX (Z.ca ih b52<|by lia)<|Z.XS Zh Z9<|by lia
 have o52:=q52 191;have o53:=f_ (k:=0) d53.F ox uM λ_ Z=>yc Z yP yM yU;have o54:=f_ (k:=9) d54.F rT xM λ_ Z=>CC Z yV yT yM (Z.ca o32 b32) (Z.V1 o41 b41) (Z.ca o53 b53)<|Z.ca o42 b42;have o55:=f_ (k:=89) d55.F ur Aw λ_ Z=>DU Z yM yR (Z.ca o43 b43) (Z.ca o44 b44) (Z.ca o46 b46)<|Z.ca o50 b50;have o56:=f_ (k:=111) d56.F nS mE λ_ Z=>xb Z yS Ug yZ x_NoText (aZ X G VT) t_T t_V ⟨⟨U8,aZ X G V9,t_NoNumber⟩⟩ ⟨⟨VU,aZ X G XI,t_NoRow⟩⟩ ⟨⟨Vv,aZ X G W8,t_NoEnds⟩⟩ ⟨⟨Vm,aZ X G Wx,t_NoPlace⟩⟩ ⟨⟨Vu,aZ X G W7,t_NoKind⟩⟩ ⟨⟨U9,aZ X G Wa,t_NoHeight⟩⟩ ⟨⟨Vt,aZ X G W6,t_NoLine⟩⟩ (Z.ca o30 b30) (Z.YR YX b30) VH WR;have o57:=f_ (k:=193) d57.F qu ww λ_ Z=>Bf Z (Z.ca o55 b55) (Z.ca o56 b56) (Z.ca o51 b51) (Z.ca o52 b52)<|Z.ca o34 b34;exact f_ d58.F Mi J4 λ_ Z=>Pd Z (Z.ca o31 b31) (Z.ca o32 b32) (Z.ca o54 b54) (Z.ca o57 b57)<|Z.ca o56 b56
def walk{q:Program}{l:PySem.W.OpenLaw}{XP:(Str->Option Value)->Heap->Prop}{YP:World->Heap->Prop}{d:DefRec}{K:Params->ce}(hq:importsNone q=true)(hn:l.most=some 63)(ZO:d.params.defaults=[])(hY:∀(w:World)(h:Heap),YP w h->(K w.params).In h)(F:∀(w:World)(mg:rG)(fa:Addr)(h:Heap),(K w.params).In h->h.Ns mainGlobals mg->mg d.name=some (.ref fa)->∃fd:FuncData,(∀(s:Shared)(u:Value),BindsTo s fd ⟨[u],[]⟩ [("_law_script",u)])/\∀base:Heap,(K w.params).In base->base.Ns mainGlobals mg->dQ l.prog w (K w.params) mg base ja 195 fa fd ["_law_script"] (GN (K w.params) zr)):PySem.W.WalkO q loose XP YP l.row.toRowW d [] (λf vs=>PySem.call f vs):=L2.Xp (n:=63) (k:=195) (x:="_law_script") (CX:=λ_=>ja) (sp:=λw=>GN (K w.params) zr) hq hn (by decide) ZO ⟨rfl,by decide,by decide⟩ hY F (λ_ H a ns hl hO hS=>⟨H,[.Vg ns],.bl true,.refl _,.cons (.Vg hS) .nil,HE ns hl,λv F' H' x r=>by cases r;rfl⟩) λ_ _ _ _ _ z=>z
end My
def PySem.W.Fast.tw13689476530879493899:PySem.Program:=PySem.Challenge.pw_planestacks_k31_texts_of_no_terms
def PySem.W.Fast.te13689476530879493899:PySem.Challenge.pw_planestacks_k31_texts_of_no_terms=PySem.W.Fast.tw13689476530879493899:=rfl
structure PySem.W.Fast:Prop where(tw1412057515319121477 tw14996898152196902123 tw16927568877101540267 tw18406772118792204317 tw7284319041311636317 tw3583598917147135539 tw15380161197928774037 tw10458288778273805722 tw2109092966390579031 tw10022774344132778538 tw8926136777478477283 tw15728209339206649460 tw3675362828106319007 tw13922660642496704580 tw8824077784840246899 tw2177609935200568331 tw12529509479618902775 tw1248721213865025813 tw9286141149231100893 tw9517230892818825995 tw9987593013161432226 tw9838977379477457839 tw5828165536385693209 tw18212318310599741593 tw14241594510861776660 tw17681727218252049466 tw17814844666527812956 tw6272477394860885742 tw5588755243575859858 tw5450617598275445387 tw8900398507695139535 tw743431625007149196 tw5060280592561936044 tw2913703066469825406 tw1847831738362337858 tw691275730885476996 tw3130222351565188957 tw13744997590761552208 tw18248832022232752248 tw3547529407066149045 tw7393977305314927005 tw13212131035539268822 tw11654130330763384752 tw9323166786951029948 tw4504393239883837077 tw16862530948475495938 tw17868715440354451854 tw15909440056936973292 tw4450410965573935052 tw3360159099148537139 tw768509865785565869 tw9690733825766787161 tw12050415724886201107 tw9095976330269154658 tw4808618939376932006 tw16677326123370965097 tw7980167021797903260 tw7702391256299283413 tw2118923232922017716 tw4746695304327500054 tw11952147807575945523 tw5472951469292146618 tw9613066139613922589 tw11370153302745862232 tw1083979631309887168 tw15335472726176888314 tw11155787308197470151 tw1106784594540771834 tw6006162368145081768 tw18374255894112545380 tw13238808811273083593 tw18088496938012799672 tw16376629130821451752 tw9853192274743633952 tw15319562726119019880 tw14134055486723254984 tw5492547794858946543 tw8933487173951222826 tw2043919069423856149 tw15883825767063215131 tw7221521844601019381 tw13321839570390510982 tw15403921604529391218 tw9733162112007179415 tw8091280232127012823 tw4826580010916247378 tw11995516654333904684 tw1053161443530554376 tw12188234807354361788 tw12184340425532787146 tw14521010647134451032 tw7489517706537417566 tw9333015362443043428 tw17955727002539319677 tw17586870907666075764 tw8044405838435103047 tw1873611138551395268 tw11861640169451827412 tw572093876840443454 tw14848990217714078740 tw8357575470249230838 tw17832701815468978378 tw8174753051884703890 tw5705401694021526341 tw15221651246582182637 tw16952073009085173571 tw7202245696642630121 tw7263157342680263681 tw6899326778827133991 tw16887663808609317414 tw2214388577542829590 tw14825362409256610856 tw8222106556967113177 tw17207217270279835485 tw12516775576223435551 tw11185530471041702443 tw14174308090980957237 tw4719148351843042619 tw9972202535486441962 tw6602587636643704116 tw1043491681781580599 tw6022186952683781161 tw526710953765708039 tw10938492545202826419 tw6197120751549035081 tw6632134068352009019 tw17569712313568465520 tw2284200551186886315 tw10833194341214315384 tw15976396714556632522 tw14513386086323698562 tw11909569350015728572 tw17645185291248111108 tw9213688419266154235 tw11790841755058240482 tw4935863857136500763 tw15205300324919929642 tw13732281273556022536 tw11705834891856785065 tw14320322126831148447 tw11964302401828864460 tw5922258730773341174 tw16709779065341917549 tw6740139563378668456 tw5071875778210267486 tw671171676519184707 tw8204121434043197367 tw9546070369069810779 tw16157619955532827541 tw12610482645117510679 tw11684632957543095718 tw11724561159896269195 tw14515751590721297626 tw1435283145982103008 tw6186999205309166784 tw1879626174557902069 tw8198658194370406013 tw11377301251484737798 tw1677895131900098727 tw8161980327780261432 tw11656305059551959893 tw3262312953898443667 tw10329293209407793188 tw14700111141595249369 tw12374660468931976497 tw5722218504842729480 tw14743416166527690370 tw3530105461568016619 tw13012182301269158766 tw11992746437407318897 tw9938945397526542144 tw7398063463547502742 tw4081653061073955046 tw1346925969336849288 tw12235212584565299231 tw6081830009452710130 tw16482417007120678524 tw412815017669392201 tw2711258524791503373 tw3705273100148442309 tw16224000378120731965 tw16561758539449764977 tw2045636221675460203 tw6176253944184520431 tw4292667196883360667 tw13349021831987118259 tw13564574475495065553 tw12090085273191313807 tw9042099413565976729 tw2463383650516659840 tw9985117349665637821 tw14309997667985754929 tw3720592312104550116 tw13261606097431110672 tw5173611088756435463 tw3512581672473059065 tw1573053744437722057 tw6156385544345401453 tw6702862372799352687 tw10378956395477531662 tw5726342691408184002 tw5612189340522918954 tw8886549115261769526 tw4317004832320509466 tw12977584540777948409 tw7594169829308766419 tw11375077944675396012 tw3426480650155340943 tw2453905431771233613 tw11062769479254867575 tw8659710590006982427 tw9069866889842588675 tw6705428476966008969 tw2257451372030697560 tw4935571356672683507 tw13341997207863274853 tw14686584757799268574 tw10057316206993837055 tw12923599004071626852 tw12758676059132602411 tw16185931110439055059 tw3181756138489795533 tw1841144115478775797 tw11556257232448981646 tw18236833185704720628 tw6423520541072669981 tw2984041558497823695 tw13728704435025011139 tw14611326174484461859 tw12106151967613441532 tw9057095837170851182 tw11139491032080794536 tw3410174604881299914 tw1553196328352909029 tw13053199961541751142 tw4346734175776458421 tw2343930783281039277 tw10240776231839817792 tw16259771351204434053 tw16361909776842982552 tw15057400699288539260 tw152485936751612075 tw4163771400917243861 tw7990239056576609123 tw456748502413388870 tw3609695433622543121 tw9854929541288328179 tw13981971858938747000 tw6324436239295093176 tw2971869532120898753 tw1186508329588526672 tw8935143521138060151 tw2469666090502568304 tw9105958143498927575 tw8237537858087726621 tw2234687525728113811 tw3140905656258214548 tw14943190041571775820 tw8042684577822599638 tw14083342549460862204 tw15146212743285358656 tw4061717082663009131 tw351362122818130886 tw10774443913020155284 tw15464824540031856070 tw17214724304192187568 tw11225384396510129684 tw5680219410315623015 tw4507432787600628491 tw15444045070892757 tw13782363244242809202 tw2714495733290320047 tw17617173396508512611 tw4613148670749914317 tw7151618347630360347 tw15990539633441751526 tw10231950390656309691 tw9222137382975273530 tw17357008055632038433 tw17146538698030223382 tw3298861707115265984 tw5628671026300889608 tw9043570365314120910 tw6330561463718048829 tw17871144916132570859 tw18223059586861749670 tw6869138964342299100 tw6381804680562528753 tw11006593823454306140 tw10080475443316753166 tw8059033944850682801 tw12945765615319326588 tw13320920836788669768 tw3795837560129513605 tw4733286257119840219 tw16812703861799793554 tw12567419784700971458 tw17451453108255257526 tw16275628738998929021 tw2234998947592146241 tw15291606808874840875 tw16699720211582795876 tw3431316902187020461 tw10881005909361511033 tw18123826401225024368 tw14807037536692172785 tw5639412721869825413 tw18179248192275931601 tw7850810576317346248 tw4617164013308752476 tw13628285451331077208 tw3209465115655577029 tw9624684511322467685 tw14707595933664543693 tw10244382456332348492 tw2186953900133300336 tw5274095437265477553 tw158323016969949359 tw12740172384308838337 tw5657982006325265521 tw7135375421362916624 tw2462413090380020286 tw13812766954023503768 tw13846412648930592281 tw6088713953763633423 tw9148440160120138390 tw16944268820482159534 tw164693074447889964 tw9921902341742589952 tw14483593552237870909 tw1798080010643875947 tw5339140839684030757 tw7010893578486385434 tw9518377333594148785 tw14960325751165531853 tw3179323015431854214 tw8181835824724825902 tw18256958584888640217 tw15401934485468843741 tw17303255089528990377 tw17286047458632219193 tw3425170774449171409 tw16257076893010831670 tw17305760813944169914 tw10946692415802145169 tw14993663257801860324 tw16723431478362642630 tw8252347436774363675 tw7164290348178561827 tw7901842163516196157 tw7214032636000639402 tw11697546517660248106 tw10608458900029717464 tw13733504535544019953 tw14440463379580428076 tw14095236501908657275 tw7955586306217929996 tw14378645675790166790 tw11216306002519692576 tw17966557831717937146 tw2334174734034119576 tw4213700151236262986 tw16617044017680695477 tw17602529216374312349 tw4584083662053763333 tw12008537645078061221 tw8741985632239871756 tw1795379956781466779 tw11064622979215311136 tw14040354707982348229 tw14738829296401716691 tw2698291303847114087 tw3186027707307250106 tw5657322281371498837 tw4527302898312933844 tw8043560365164516404 tw15862672643473137626 tw17307599008544315067 tw7036663432030410091 tw15092838893053435563 tw12572665790479077606 tw2161042869497029108 tw11667111762414701164 tw5352833434260690277 te870253350662440328 tw17542317129790246961 tw9648945365221033700 tw5427487162766792286 tw11355617559136159708 tw11848540156892838921 tw8559023521368821699 tw4530255658221248139 tw11376843476275588754 tw3950046421003613612 tw8989560176741237424 tw13470350809626756469 tw18439040275042448123 tw8539518708225390595 tw8422937842606862122 tw5976373279357710415 tw17315470019848262433 tw7563143169569220488 tw12936610448575544634 tw17957588047180421500 tw8835273468478424299 tw12842671769812069795 tw7013881427280209322 tw1381140548104691734 tw12649683663934666316 tw14755290534871997762 tw3608514855563831096 tw8864470464826285692 tw1632202242709551263 tw13013152594607997487 tw16637213319109354215 tw17869308265485603069 tw4314750932232920580 tw13625741434451605688 tw1150792364426363483 tw14278771013047773489 tw9590692727905880423 tw2017115595254898360 tw110725970366240325 tw9447402937042521090 tw12187602457822475455 tw8989007488519005903 tw7867129271576408671 tw9303466111973405855 tw12658711526932943655 tw11915978264480090302 tw7123258051114387652 tw15202384234347105018 tw1376140635476314694 tw17860881218480764966 tw8938448646631553484 tw15543972759716624306 tw3961826848362512125 tw6525103540119661236 tw10513717147452767247 tw10935126492850110542 tw13104756397213884048 tw15819967232525840343 tw13072300579190018078 tw14647353658862194030 tw2263865422799801267 tw4577840360722984465 tw12194531563848123064 tw1573878444593978671 tw4805889529471776997 tw9644358058363909050 tw11211584705245866413 tw14715731731290223611 tw120477034219088182 tw18280759514608532394 tw3948115855113271861 tw2325545601384121801 tw14462259177792555746 tw7279534953892163205 tw436598329241390655 tw15543589440785869383 tw5327265792927721470 tw15573361420927584636 tw15532323464921417535 tw16683561832211725005 tw6114930522124011644 tw9578059895960811365 tw2788402743970505974 tw11656383646237827377 tw527641377805227791 tw6937712233344399935 tw18328776993682716590 tw3726801669605898631 tw10352412490700692658 tw9617400583899789270 tw924711252796714407 tw7649972691178864670 tw8180346057101715971 tw3093007803633698359 tw16919435511620855380 tw9730723703106631982 tw6188102186927159048 tw13727088862503571625 tw15675560616299899384 tw17750002199088068554 tw9520453950559069862 tw7629467129607715089 tw11206365976961443598 tw2500033569402179574 tw12097579971883319286 tw121955526170982560 tw2510809796505340227 tw6997003504652180194 tw15251963479506976079 tw12892081524975412584 tw5144486300273031043 tw9791625707391443725:True)
open PySem PySem.W PyProof.Rows
set_option maxRecDepth 100000 in
set_option maxHeartbeats 0 in
theorem PySem.Challenge.cw_planestacks_k31_texts_of_no_terms_holds : PySem.Challenge.rw_planestacks_k31_texts_of_no_terms.Holds := by
 w_on; o_law; k_head; (case hw => w_witness2)
 k_fill
 refine My.walk (l := PySem.Challenge.rw_planestacks_k31_texts_of_no_terms) (by decide +kernel) rfl rfl (fun w h Y => PySem.W.kIn_of Y) ?F
 case F =>
  intro w mg fa h KX G hmg
  refine' My.all_mk rfl KX G hmg ?_ ?_ ?_ ?_ ?_ ?_ ?_ ?_ ?_ ?_ ?_ ?_ ?_ ?_ ?_ ?_ ?_ ?_ ?_ ?_ ?_ ?_ ?_ ?_ ?_ ?_ ?_ ?_ ?_ ?_ ?_ ?_ ?_ ?_ ?_ ?_ ?_ ?_ ?_ ?_ ?_ ?_ ?_ ?_ ?_ ?_ ?_ ?_ ?_ ?_ ?_ ?_ ?_ ?_ ?_ ?_ ?_ ?_ ?_ ?_ ?_ ?_ ?_ ?_ ?_ ?_ ?_ ?_ ?_ ?_ ?_ ?_ ?_ ?_ ?_ ?gp_WORDS ?_ ?_ ?gp_DOUBLE_SIGNS ?_ ?_ ?_ ?_ ?_ ?_ ?_ ?_ ?_ ?_ ?_ ?_ ?_ ?_ ?_ ?_ ?_ ?_ ?_ ?_ ?q_NoText ?_ ?q_StackError ?_ ?_ ?t_NoNumber ?_ ?t_NoRow ?_ ?t_NoEnds ?_ ?t_NoPlace ?_ ?t_NoKind ?_ ?t_NoHeight ?_ ?t_NoLine ?t_T ?t_V ?x_NoText
  all_goals try refine' L2.EV.kd ?_ ?_ ?_ ?_
  all_goals try k_is
  (case q_NoText => k_exc)
  (case q_StackError => k_exc)
  (case t_NoNumber => kit_is)
  (case t_NoRow => kit_is)
  (case t_NoEnds => kit_is)
  (case t_NoPlace => kit_is)
  (case t_NoKind => kit_is)
  (case t_NoHeight => kit_is)
  (case t_NoLine => kit_is)
  (case t_T => kit_is)
  (case t_V => kit_is)
  (case x_NoText => refine' ⟨?x1, ?x2, ?x3, ?x4, ?x5⟩; (case x1 => k_is); (case x2 => k_is); (case x3 => k_is); (case x4 => k_is); (case x5 => k_is))
  (case gp_WORDS => refine' (.cons (.str _ _) (.cons (.str _ _) (.cons (.str _ _) (.cons (.str _ _) (.cons (.str _ _) (.cons (.str _ _) (.cons (.str _ _) .nil))))))))
  (case gp_DOUBLE_SIGNS => refine' (.cons (.str _ _) (.cons (.str _ _) (.cons (.str _ _) .nil))))
